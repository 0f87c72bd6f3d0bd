package token_test

import (
	"slices"
	"strings"
	"testing"

	"scrim/api"
	"scrim/token"
)

func open(name string, l ...string) token.Token {
	t := token.Token{Kind: token.Open, Name: name}
	for i := 0; i+1 < len(l); i += 2 {
		t.Attrs = append(t.Attrs, api.Attr{Name: l[i], Value: l[i+1]})
	}
	return t
}

func shut(name string) token.Token { return token.Token{Kind: token.Close, Name: name} }

func text(s string) token.Token { return token.Token{Kind: token.Text, Text: s} }

func same(a, b token.Token) bool {
	return a.Kind == b.Kind && a.Name == b.Name && a.Text == b.Text && slices.Equal(a.Attrs, b.Attrs)
}

func list(l ...token.Token) []token.Token { return l }

// reading is a text, and its tokens.
type reading struct {
	s    string
	want []token.Token
}

func check(t *testing.T, l []reading) {
	t.Helper()
	for _, c := range l {
		got, e := token.Read(c.s)
		if !slices.EqualFunc(got, c.want, same) || e != api.OK {
			t.Errorf("Read(%q) = %+v, %d, want %+v", c.s, got, e, c.want)
		}
	}
}

// checkText holds that each text is one token, as it stands.
func checkText(t *testing.T, l ...string) {
	t.Helper()
	for _, s := range l {
		check(t, []reading{{s, list(text(s))}})
	}
}

var (
	name20 = strings.Repeat("a", 20)
	name21 = strings.Repeat("a", 21)
)

// P4.1

func TestReadOpenings(t *testing.T) {
	check(t, []reading{
		{"<p>", list(open("p"))},
		{"<h1>", list(open("h1"))},
		{"<a-1-b>", list(open("a-1-b"))},
		{"<a->", list(open("a-"))},
		{"<" + name20 + ">", list(open(name20))},
		{"<" + strings.ToUpper(name20) + ">", list(open(name20))},
		{"<pRE>", list(open("pre"))},
		{"<AZaz09>", list(open("azaz09"))},
		{"<root>", list(open("root"))},
		{"<p><b>", list(open("p"), open("b"))},
	})
	checkText(t, "<", "<p", "<p ", "<>", "< p>", "<\tp>", "<1>", "<-a>", "<1a>", "<p/>", "<p.>", "<p_>", "<!p>", "<"+name21+">", "<"+strings.ToUpper(name21)+">", "<a"+strings.Repeat("-1", 10)+">")
}

func TestReadClosings(t *testing.T) {
	check(t, []reading{
		{"</p>", list(shut("p"))},
		{"</H1>", list(shut("h1"))},
		{"</p \t\n\r>", list(shut("p"))},
		{"</" + name20 + ">", list(shut(name20))},
		{"</p></p>", list(shut("p"), shut("p"))},
		{"<p><b></p></b>", list(open("p"), open("b"), shut("p"), shut("b"))},
	})
	checkText(t, "</", "</p", "</p ", "</>", "</ p>", "< /p>", "<//p>", "</1>", "</-a>", "</p/>", "</p a>", "</p a=\"b\">", "</"+name21+">")
}

func TestReadAttributes(t *testing.T) {
	check(t, []reading{
		{`<a b>`, list(open("a", "b", ""))},
		{`<a b="">`, list(open("a", "b", ""))},
		{`<a b="c">`, list(open("a", "b", "c"))},
		{`<a b c="d" e>`, list(open("a", "b", "", "c", "d", "e", ""))},
		{`<A B="C">`, list(open("a", "b", "C"))},
		{`<a h-1="x" ` + name20 + `="y">`, list(open("a", "h-1", "x", name20, "y"))},
		{`<a b="c=d">`, list(open("a", "b", "c=d"))},
		{`<a b=" c ">`, list(open("a", "b", " c "))},
		{"<a b=\"c\nd\">", list(open("a", "b", "c\nd"))},
		{`<a b='c'd="e">`, list(text(`<a b='c'd="e">`))},
		// Of one name the first one counts alone, whichever of them have a value.
		{`<a x="1" x="2">`, list(open("a", "x", "1"))},
		{`<a x="1" X="2" x>`, list(open("a", "x", "1"))},
		{`<a x x="2">`, list(open("a", "x", ""))},
		{`<a x="" y="3" x="2">`, list(open("a", "x", "", "y", "3"))},
		{`<a y="3" x="1" y="4" x="2" z>`, list(open("a", "y", "3", "x", "1", "z", ""))},
		// A value's bytes are any but ", and it tells what its signs tell.
		{`<a b="<>">`, list(open("a", "b", "<>"))},
		{`<a b="<p>">x</a>`, list(open("a", "b", "<p>"), text("x"), shut("a"))},
		{`<a b="&lt;&gt;&amp;&quot;">`, list(open("a", "b", `<>&"`))},
		{`<a b="&amp;lt;">`, list(open("a", "b", "&lt;"))},
		{`<a b="& &lt &x;">`, list(open("a", "b", "& &lt &x;"))},
		{`<a b="'">`, list(open("a", "b", "'"))},
	})
	checkText(t, `<a "b">`, `<a ="b">`, `<a b=>`, `<a b=c>`, `<a b='c'>`, `<a b="c>`, `<a b=">`, `<a b="c"`, `<a b=c" d="e">`,
		`<a b="c"d>`, `<a b="c"d="e">`, `<a b="c"/>`, `<a b"c">`, `<a b= "c">`, `<a b ="c">`, `<a b = "c">`, `<a b=="c">`,
		`<a 1>`, `<a 1="b">`, `<a -b>`, `<a b.c>`, `<a b&c>`, `<a b="c" 1>`, `<a b="c" d=e>`, `<a `+name21+`>`, `<a `+name21+`="b">`, `<a b="c" `+name21+`>`)
}

func TestReadBlanks(t *testing.T) {
	for _, b := range []string{" ", "\t", "\n", "\r", "  ", "\r\n\t "} {
		check(t, []reading{
			{"<p" + b + ">", list(open("p"))},
			{"</p" + b + ">", list(shut("p"))},
			{"<p" + b + "a>", list(open("p", "a", ""))},
			{"<p" + b + "a" + b + ">", list(open("p", "a", ""))},
			{"<p" + b + "a=\"1\"" + b + "c>", list(open("p", "a", "1", "c", ""))},
			{"<p" + b + "a=\"" + b + "\"" + b + ">", list(open("p", "a", b))},
			{b, list(text(b))},
			{b + "<p>" + b, list(text(b), open("p"), text(b))},
		})
		checkText(t, "<"+b+"p>", "<"+b+"/p>", "</"+b+"p>", "<p a"+b+"=\"1\">", "<p a="+b+"\"1\">", "<p"+b+"/>", "<p"+b)
	}
	// No other byte is one.
	for _, b := range []string{"\v", "\f", "\x00", "\x85", "\xa0", "\u00a0", "\u2003", "\x1f", "/", ","} {
		checkText(t, "<p"+b+">", "</p"+b+">", "<p"+b+"a>", "<p a=\"1\""+b+"c>")
	}
}

func TestReadTexts(t *testing.T) {
	check(t, []reading{
		{"", nil},
		{"x", list(text("x"))},
		{">", list(text(">"))},
		{`a "b" > c`, list(text(`a "b" > c`))},
		{"a<b>c", list(text("a"), open("b"), text("c"))},
		{"<P id=\"a\">x</p>&lt;<", list(open("p", "id", "a"), text("x"), shut("p"), text("<<"))},
		// What begins no token is one with the text about it.
		{"a<1>b", list(text("a<1>b"))},
		{"x<", list(text("x<"))},
		{"<p><", list(open("p"), text("<"))},
		{"<p></", list(open("p"), text("</"))},
		{"<p><b", list(open("p"), text("<b"))},
		{"<<p>>", list(text("<"), open("p"), text(">"))},
		{"</<p>", list(text("</"), open("p"))},
		{"<p<b>", list(text("<p"), open("b"))},
		{"<p a=\"<b>", list(text("<p a=\""), open("b"))},
		{"<p a=b><i>", list(text("<p a=b>"), open("i"))},
		{"<p a=\"<b c=\"d\">", list(text("<p a=\""), open("b", "c", "d"))},
		// Texts tell what they tell together.
		{"&lt;p&gt;", list(text("<p>"))},
		{"&l<p>t;", list(text("&l"), open("p"), text("t;"))},
		{"&amp;&lt", list(text("&&lt"))},
		{"a&amp;lt;&b&LT;", list(text("a&lt;&b&LT;"))},
		{"<&gt;", list(text("<>"))},
		{"<p&gt;", list(text("<p>"))},
		{"&lt;p>", list(text("<p>"))},
		{"a<1>&lt;<2>b", list(text("a<1><<2>b"))},
	})
}

func TestReadBytesThatAreNoLetters(t *testing.T) {
	check(t, []reading{
		{"\xff\xfe<p>\x00</p>\x80", list(text("\xff\xfe"), open("p"), text("\x00"), shut("p"), text("\x80"))},
		{"ä<p a=\"ö\xc3\">ü", list(text("ä"), open("p", "a", "ö\xc3"), text("ü"))},
		{"\xe2<b>\x82\xac", list(text("\xe2"), open("b"), text("\x82\xac"))},
	})
	checkText(t, "<ä>", "<pä>", "</ä>", "<p ä>", "<p aä=\"1\">", "<\xc3>", "<p\xff>", "<p a=\"1\"\xff>", "<\u212a>", "<\u017f>", "<@>", "<[>", "<`>", "<{>", "<a@>", "<a[>", "<a`>", "<a{>", "<a:>", "<a/ >")
	for b := range 256 {
		one := string([]byte{byte(b)})
		if token.Name(one) != (b >= 'a' && b <= 'z') {
			t.Errorf("Name(%q) = %v", one, token.Name(one))
		}
		in := b >= 'a' && b <= 'z' || b >= '0' && b <= '9' || b == '-'
		if token.Name("a"+one) != in {
			t.Errorf("Name(%q) = %v", "a"+one, token.Name("a"+one))
		}
	}
}

func TestReadMostBytes(t *testing.T) {
	for _, s := range []string{
		strings.Repeat("a", api.MostBytes), strings.Repeat("<", api.MostBytes), strings.Repeat("&lt;", api.MostBytes/4),
		strings.Repeat("<p>", api.MostBytes/3) + "a", "<p a=\"" + strings.Repeat("b", api.MostBytes-8) + "\">", strings.Repeat("ä", api.MostBytes/2),
	} {
		if len(s) != api.MostBytes {
			t.Fatalf("%d bytes", len(s))
		}
		if l, e := token.Read(s); len(l) == 0 || e != api.OK {
			t.Errorf("Read(%.9q ..) = %d tokens, %d", s, len(l), e)
		}
		for _, more := range []string{s + "a", " " + s, s + s} {
			if l, e := token.Read(more); len(l) != 0 || e != api.ErrFull {
				t.Errorf("Read(%.9q ..) of %d bytes = %d tokens, %d", more, len(more), len(l), e)
			}
		}
	}
	all := strings.Repeat("<p>", api.MostBytes/3)
	if l, _ := token.Read(all); len(l) != api.MostBytes/3 {
		t.Errorf("%d tokens", len(l))
	}
}

func TestName(t *testing.T) {
	for s, want := range map[string]bool{
		"": false, "a": true, "z": true, "p": true, "h1": true, "a-1": true, "a-": true, "a--b": true, "root": true,
		"A": false, "aB": false, "Ab": false, "1": false, "1a": false, "-": false, "-a": false,
		"a b": false, " a": false, "a ": false, "a\n": false, "a.b": false, "a_b": false, "a>": false, "<a": false,
		"ä": false, "aä": false, "a\xff": false, "a\x00": false,
		name20: true, name21: false, strings.Repeat("a", 100000): false, name20[:19] + "A": false, name20[:19] + "9": true,
	} {
		if got := token.Name(s); got != want {
			t.Errorf("Name(%q) = %v", s, got)
		}
	}
}

// P4.2

func TestTell(t *testing.T) {
	for s, want := range map[string]string{
		"": "", "x": "x", "<>\"": "<>\"", "&": "&", "&&": "&&", ";": ";",
		"&lt;": "<", "&gt;": ">", "&amp;": "&", "&quot;": `"`, "&lt;&gt;&amp;&quot;": `<>&"`, "a&lt;b": "a<b",
		// Any other & is itself.
		"&lt": "&lt", "&l": "&l", "&lt ;": "&lt ;", "&gt": "&gt", "&amp": "&amp", "&quot": "&quot", "&quo;": "&quo;",
		"&LT;": "&LT;", "&Lt;": "&Lt;", "&Amp;": "&Amp;", "& lt;": "& lt;", "&x;": "&x;", "&;": "&;", "&apos;": "&apos;", "&#60;": "&#60;", "&nbsp;": "&nbsp;",
		// From the left, and what was told tells nothing more.
		"&&lt;": "&<", "&lt&lt;": "&lt<", "&&amp;": "&&", "&amp;lt;": "&lt;", "&amp;amp;": "&amp;", "&amp;amp;lt;": "&amp;lt;",
		"&amp;&lt;": "&<", "&amp;quot;": "&quot;", "&am&amp;p;": "&am&p;", "&lt;;": "<;",
		"\xff&lt;\x00": "\xff<\x00", "ä&gt;ö": "ä>ö",
	} {
		if got := token.Tell(s); got != want {
			t.Errorf("Tell(%q) = %q, want %q", s, got, want)
		}
	}
}

func TestSign(t *testing.T) {
	for _, c := range []struct{ s, bare, quoted string }{
		{"", "", ""},
		{"x", "x", "x"},
		{"<", "&lt;", "&lt;"},
		{">", "&gt;", "&gt;"},
		{"&", "&amp;", "&amp;"},
		{`"`, `"`, "&quot;"},
		{`<a>&"`, `&lt;a&gt;&amp;"`, "&lt;a&gt;&amp;&quot;"},
		{"&lt;", "&amp;lt;", "&amp;lt;"},
		{"&&", "&amp;&amp;", "&amp;&amp;"},
		{`""`, `""`, "&quot;&quot;"},
		{"'ä\n\x00\xff", "'ä\n\x00\xff", "'ä\n\x00\xff"},
	} {
		if got := token.Sign(c.s, false); got != c.bare {
			t.Errorf("Sign(%q, false) = %q, want %q", c.s, got, c.bare)
		}
		if got := token.Sign(c.s, true); got != c.quoted {
			t.Errorf("Sign(%q, true) = %q, want %q", c.s, got, c.quoted)
		}
	}
}
