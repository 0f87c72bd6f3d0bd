package scan_test

import (
	"math/rand"
	"regexp"
	"slices"
	"strings"
	"testing"

	"scrim/scan"
)

// What the chapter's words say, as patterns.
var (
	aRemark  = regexp.MustCompile(`(?s)/\*.*?(?:\*/|\z)`)
	aboutIt  = regexp.MustCompile(`\A[ \t\n\r]*|[ \t\n\r]*\z`)
	aWord    = regexp.MustCompile(`[^ \t\n\r]+`)
	leftOut  = regexp.MustCompile(`\A[^{}]*\}`)
	aBlock   = regexp.MustCompile(`\A([^{}]*)\{([^}]*)\}`)
	allParts = []string{"{", "}", "/*", "*/", "/", "*", "a", "B", "b c", ",", ";", " ", "\n", "\t\r", "\v", "ä", "\xff", "\x00", ":"}
)

func trimByPattern(s string) string { return aboutIt.ReplaceAllString(s, "") }

func blocksByPattern(s string) []scan.Block {
	var l []scan.Block
	for {
		if out := leftOut.FindString(s); out != "" {
			s = s[len(out):]
			continue
		}
		m := aBlock.FindStringSubmatch(s)
		if m == nil {
			return l
		}
		l = append(l, scan.Block{Head: trimByPattern(m[1]), Body: trimByPattern(m[2])})
		s = s[len(m[0]):]
	}
}

// hold holds all that follows of one text.
func hold(t *testing.T, s string) {
	t.Helper()
	if got, want := scan.Strip(s), aRemark.ReplaceAllLiteralString(s, " "); got != want || scan.Strip(got) != got {
		t.Fatalf("Strip(%q) = %q, stripped again %q, want %q", s, got, scan.Strip(got), want)
	}
	if got, want := scan.Trim(s), trimByPattern(s); got != want || scan.Trim(got) != got {
		t.Fatalf("Trim(%q) = %q, trimmed again %q, want %q", s, got, scan.Trim(got), want)
	}
	words := scan.Words(s)
	if want := aWord.FindAllString(s, -1); !slices.Equal(words, want) {
		t.Fatalf("Words(%q) = %q, want %q", s, words, want)
	}
	for _, between := range []string{" ", "\t", "\n", "\r", " \r\n"} {
		if got := scan.Words(between + strings.Join(words, between)); !slices.Equal(got, words) {
			t.Fatalf("Words(%q), joined by %q, are %q", s, between, got)
		}
	}
	for _, sep := range []byte("a,; \n{*") {
		var want []string
		for _, part := range strings.Split(s, string(sep)) {
			want = append(want, trimByPattern(part))
		}
		if got := scan.Split(s, sep); !slices.Equal(got, want) {
			t.Fatalf("Split(%q, %q) = %q, want %q", s, sep, got, want)
		}
	}
	blocks := scan.Blocks(s)
	if want := blocksByPattern(s); !slices.Equal(blocks, want) {
		t.Fatalf("Blocks(%q) = %q, want %q", s, blocks, want)
	}
	var written strings.Builder
	for _, b := range blocks {
		written.WriteString(b.Head + " {\n" + b.Body + " }\t")
	}
	if got := scan.Blocks(written.String()); !slices.Equal(got, blocks) {
		t.Fatalf("Blocks(%q) are %q, written %q, read %q", s, blocks, written.String(), got)
	}
}

// P7.3

func TestAllShortTexts(t *testing.T) {
	const bytes = "{}/*a ,\n"
	for length := range 6 {
		at := make([]byte, length)
		var fill func(i int)
		fill = func(i int) {
			if i == length {
				hold(t, string(at))
				return
			}
			for _, b := range []byte(bytes) {
				at[i] = b
				fill(i + 1)
			}
		}
		fill(0)
	}
}

func TestTextsOfParts(t *testing.T) {
	some := rand.New(rand.NewSource(7))
	for range 10000 {
		var s strings.Builder
		for range some.Intn(24) {
			s.WriteString(allParts[some.Intn(len(allParts))])
		}
		hold(t, s.String())
	}
}

func TestLowerOfAllParts(t *testing.T) {
	for _, s := range allParts {
		got := scan.Lower(s + "AbC" + s)
		if strings.ContainsAny(got, "ABCDEFGHIJKLMNOPQRSTUVWXYZ") || !strings.EqualFold(got, s+"AbC"+s) || scan.Lower(got) != got || len(got) != 2*len(s)+3 {
			t.Errorf("%q: %q", s, got)
		}
	}
}

func TestLongTexts(t *testing.T) {
	const n = 200000
	for _, s := range []string{"{", "}", "/*", "*/", "/", " ", "a ", "{}", "}{", "a,"} {
		long := strings.Repeat(s, n)
		scan.Strip(long)
		scan.Trim(long)
		scan.Lower(long)
		scan.Blocks(long)
		if got := scan.Split(long, ','); len(got) != strings.Count(long, ",")+1 {
			t.Errorf("%q: %d parts", s, len(got))
		}
		if got := scan.Words(long); len(got) > n {
			t.Errorf("%q: %d words", s, len(got))
		}
	}
}

func TestAnswersShareNothing(t *testing.T) {
	const s = "a b {c} d {e}"
	words, parts, blocks := scan.Words(s), scan.Split(s, 'b'), scan.Blocks(s)
	words[0], parts[0], blocks[0].Head = "other", "other", "other"
	if scan.Words(s)[0] != "a" || scan.Split(s, 'b')[0] != "a" || scan.Blocks(s)[0].Head != "a b" {
		t.Error("asked again, it is another one")
	}
}
