package scan_test

import (
	"slices"
	"strings"
	"testing"

	"scrim/scan"
)

// notBlanks are bytes that look like blanks, and are none.
var notBlanks = []string{"\v", "\f", "\x00", "\x85", "\xa0", "\u00a0", "\u2003", "\x1f", "\x1c"}

// P7.1

func TestStrip(t *testing.T) {
	for s, want := range map[string]string{
		"": "", "a": "a", "a/*b*/c": "a c", " a /* b */ c ": " a   c ", "/**/": " ", "a/**/": "a ", "/**/a": " a",
		// A remark that does not end.
		"/*": " ", "a/*": "a ", "a/*b": "a ", "a/*b*": "a ", "a/*b* /c": "a ",
		// One that ends where it begins ends later, or never.
		"/*/": " ", "/*/a": " ", "/*/*/": " ", "/*/*/a": " a", "a/*/b*/c": "a c", "/*//**/x": " x",
		// They don't stand in one another.
		"/*/*a*/b": " b", "/* /* */ */": "  */", "a/*b/*c*/d*/e": "a d*/e", "/*/**/*/": " */", "/***/": " ", "/*a**/b": " b", "/**//**/": "  ", "/*a*//*b": "  ",
		// What is none.
		"/": "/", "*": "*", "*/": "*/", "a*/b": "a*/b", "/ *a* /": "/ *a* /", "/a*b*/": "/a*b*/", "//a": "//a", "**/": "**/", "/\n*": "/\n*",
		// What is put together isn't one.
		"//*x*/*": "/ *", "//**/*a*/": "/ *a*/",
		"/*\n\r\t{}\"*/\n": " \n", "ä/*ö*/\xff\x00": "ä \xff\x00", "\"/*\"": "\" ",
	} {
		if got := scan.Strip(s); got != want {
			t.Errorf("Strip(%q) = %q, want %q", s, got, want)
		}
	}
}

func TestTrim(t *testing.T) {
	for s, want := range map[string]string{
		"": "", " ": "", "\t": "", "\n": "", "\r": "", " \t\r\n ": "", "a": "a", " a": "a", "a ": "a", "\r\n\ta\n\n": "a",
		" a b ": "a b", "a\t b": "a\t b", "\n\xff\x00 ": "\xff\x00", " ä\n": "ä",
	} {
		if got := scan.Trim(s); got != want {
			t.Errorf("Trim(%q) = %q, want %q", s, got, want)
		}
	}
	for _, b := range notBlanks {
		for _, s := range []string{b, b + "a" + b, b + " a " + b} {
			if got := scan.Trim(" " + s + "\n"); got != s {
				t.Errorf("Trim of %q in blanks is %q", s, got)
			}
		}
	}
}

func TestSplit(t *testing.T) {
	for _, c := range []struct {
		s    string
		sep  byte
		want []string
	}{
		{"", ',', []string{""}},
		{" \n", ',', []string{""}},
		{"a", ',', []string{"a"}},
		{" a b ", ',', []string{"a b"}},
		{"a;b", ',', []string{"a;b"}},
		{"a,b", ',', []string{"a", "b"}},
		{" a , b c\t,\nd ", ',', []string{"a", "b c", "d"}},
		// At either end, two of them, alone.
		{",a", ',', []string{"", "a"}},
		{"a,", ',', []string{"a", ""}},
		{"a,,b", ',', []string{"a", "", "b"}},
		{"a, ,b", ',', []string{"a", "", "b"}},
		{",", ',', []string{"", ""}},
		{" ;\n;\t", ';', []string{"", "", ""}},
		// One that is a blank.
		{"a b", ' ', []string{"a", "b"}},
		{" a  b\n", ' ', []string{"", "a", "", "b"}},
		{"a\tb c", '\t', []string{"a", "b c"}},
		{"a\n\nb", '\n', []string{"a", "", "b"}},
		{"a\r\nb", '\r', []string{"a", "b"}},
		// Any byte is one.
		{"aba", 'a', []string{"", "b", ""}},
		{"a\x00b", 0, []string{"a", "b"}},
		{"a\xffb", 0xff, []string{"a", "b"}},
		{"\xc3\xa9", 0xa9, []string{"\xc3", ""}},
		{"é", 0xc3, []string{"", "\xa9"}},
		{"A,a", 'A', []string{"", ",a"}},
	} {
		if got := scan.Split(c.s, c.sep); !slices.Equal(got, c.want) {
			t.Errorf("Split(%q, %q) = %q, want %q", c.s, c.sep, got, c.want)
		}
	}
}

func TestWords(t *testing.T) {
	for _, c := range []struct {
		s    string
		want []string
	}{
		{"", nil},
		{" ", nil},
		{" \t\n\r ", nil},
		{"a", []string{"a"}},
		{" a ", []string{"a"}},
		{"a b", []string{"a", "b"}},
		{" a\tb  c\r\nd ", []string{"a", "b", "c", "d"}},
		{"a,b ;c", []string{"a,b", ";c"}},
		{"a a A", []string{"a", "a", "A"}},
		{"ä \xff\n\x00", []string{"ä", "\xff", "\x00"}},
	} {
		if got := scan.Words(c.s); !slices.Equal(got, c.want) {
			t.Errorf("Words(%q) = %q, want %q", c.s, got, c.want)
		}
	}
	for _, b := range notBlanks {
		if got, want := scan.Words("a"+b+"c "+b), []string{"a" + b + "c", b}; !slices.Equal(got, want) {
			t.Errorf("Words = %q, want %q", got, want)
		}
	}
}

func TestLower(t *testing.T) {
	for s, want := range map[string]string{
		"": "", "a": "a", "AZaz": "azaz", "@[`{": "@[`{", "A1-b_C ": "a1-b_c ", "ÄÉ": "ÄÉ", "\xc1\xff": "\xc1\xff", "\u212a": "\u212a", "İ": "İ", "\x00A\x00": "\x00a\x00",
	} {
		if got := scan.Lower(s); got != want {
			t.Errorf("Lower(%q) = %q, want %q", s, got, want)
		}
	}
	for b := range 256 {
		want := byte(b)
		if strings.IndexByte("ABCDEFGHIJKLMNOPQRSTUVWXYZ", want) >= 0 {
			want += 32
		}
		if got := scan.Lower(string([]byte{byte(b)})); got != string([]byte{want}) {
			t.Errorf("Lower of byte %d is %q", b, got)
		}
	}
}

// P7.2

func TestBlocks(t *testing.T) {
	block := func(head, body string) scan.Block { return scan.Block{Head: head, Body: body} }
	for _, c := range []struct {
		s    string
		want []scan.Block
	}{
		{"", nil},
		{" \n", nil},
		{"a", nil},
		{"a{b}", []scan.Block{block("a", "b")}},
		{" a \n{\tb c ; }\r", []scan.Block{block("a", "b c ;")}},
		{"a{b}c{d}", []scan.Block{block("a", "b"), block("c", "d")}},
		{"a { b } } c {d} e {", []scan.Block{block("a", "b"), block("c", "d")}},
		{"{}", []scan.Block{block("", "")}},
		{" { } {x} y{} ", []scan.Block{block("", ""), block("", "x"), block("y", "")}},
		// Braces that stand alone.
		{"{", nil},
		{"}", nil},
		{"}{", nil},
		{"a{", nil},
		{"a{b", nil},
		{"a}", nil},
		{"a}b", nil},
		{"a}b{c", nil},
		{"a{b}c", []scan.Block{block("a", "b")}},
		{"a{b}c}", []scan.Block{block("a", "b")}},
		{"a{b}c{", []scan.Block{block("a", "b")}},
		{"a{b}c{d", []scan.Block{block("a", "b")}},
		{"}a{b}", []scan.Block{block("a", "b")}},
		{"x}a{b}", []scan.Block{block("a", "b")}},
		{"x}y}a{b}", []scan.Block{block("a", "b")}},
		{"a{b}}c{d}", []scan.Block{block("a", "b"), block("c", "d")}},
		{"a{b}x}c{d}", []scan.Block{block("a", "b"), block("c", "d")}},
		{"a{b}} }} c{d}", []scan.Block{block("a", "b"), block("c", "d")}},
		// A { in a body is a byte of it.
		{"a{b{c}", []scan.Block{block("a", "b{c")}},
		{"a{{}", []scan.Block{block("a", "{")}},
		{"{{{}", []scan.Block{block("", "{{")}},
		{"a{b{c}d}e{f}", []scan.Block{block("a", "b{c"), block("e", "f")}},
		{"@m{a{b}c{d}}e{f}", []scan.Block{block("@m", "a{b"), block("c", "d"), block("e", "f")}},
		// As it is: remarks, and great letters, stay.
		{"A/*}*/{b}", []scan.Block{block("*/", "b")}},
		{"A{/*}*/B}", []scan.Block{block("A", "/*")}},
		{"A, B{C:D;/*x*/}", []scan.Block{block("A, B", "C:D;/*x*/")}},
		{"ä\xff{\x00}", []scan.Block{block("ä\xff", "\x00")}},
		{"a{\"}\"}", []scan.Block{block("a", "\"")}},
	} {
		if got := scan.Blocks(c.s); !slices.Equal(got, c.want) {
			t.Errorf("Blocks(%q) = %q, want %q", c.s, got, c.want)
		}
	}
}
