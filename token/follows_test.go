package token_test

import (
	"math/rand"
	"regexp"
	"slices"
	"strings"
	"testing"

	"scrim/api"
	"scrim/token"
)

// What the chapter's words say, as patterns.
const (
	aName   = `[A-Za-z][A-Za-z0-9-]*`
	aBlank  = `[ \t\n\r]`
	aValue  = `="([^"]*)"`
	oneAttr = aBlank + `+(` + aName + `)(?:` + aValue + `)?`
)

var (
	toldName = regexp.MustCompile(`\A[a-z][a-z0-9-]{0,19}\z`)
	opening  = regexp.MustCompile(`^<(` + aName + `)((?:` + oneAttr + `)*)` + aBlank + `*>`)
	closing  = regexp.MustCompile(`^</(` + aName + `)` + aBlank + `*>`)
	attr     = regexp.MustCompile(oneAttr)
	aSign    = regexp.MustCompile(`&(lt|gt|amp|quot);`)
)

func tellByPattern(s string) string {
	return aSign.ReplaceAllStringFunc(s, func(sign string) string {
		return map[string]string{"&lt;": "<", "&gt;": ">", "&amp;": "&", "&quot;": `"`}[sign]
	})
}

// firstByPattern tells the token that s begins with, if that is no text, and how long it is.
func firstByPattern(s string) (token.Token, int) {
	if m := closing.FindStringSubmatch(s); m != nil && len(m[1]) <= 20 {
		return shut(strings.ToLower(m[1])), len(m[0])
	}
	m := opening.FindStringSubmatch(s)
	if m == nil || len(m[1]) > 20 {
		return token.Token{}, 0
	}
	t := open(strings.ToLower(m[1]))
	seen := map[string]int{}
	for _, a := range attr.FindAllStringSubmatch(m[2], -1) {
		name := strings.ToLower(a[1])
		if len(name) > 20 {
			return token.Token{}, 0
		}
		if seen[name]++; seen[name] == 1 {
			t.Attrs = append(t.Attrs, api.Attr{Name: name, Value: tellByPattern(a[2])})
		}
	}
	return t, len(m[0])
}

func readByPattern(s string) []token.Token {
	var l []token.Token
	raw := ""
	end := func() {
		if raw != "" {
			l = append(l, text(tellByPattern(raw)))
		}
		raw = ""
	}
	for s != "" {
		t, n := firstByPattern(s)
		if n == 0 {
			raw, s = raw+s[:1], s[1:]
			continue
		}
		end()
		l, s = append(l, t), s[n:]
	}
	end()
	return l
}

// hold holds all that follows of one text.
func hold(t *testing.T, s string) {
	t.Helper()
	got, e := token.Read(s)
	if want := readByPattern(s); e != api.OK || !slices.EqualFunc(got, want, same) {
		t.Fatalf("Read(%q) = %+v, %d, want %+v", s, got, e, want)
	}
	for i, x := range got {
		wrong := x.Kind == token.Text && (x.Text == "" || x.Name != "" || len(x.Attrs) != 0 || i > 0 && got[i-1].Kind == token.Text)
		wrong = wrong || x.Kind == token.Close && (!token.Name(x.Name) || x.Text != "" || len(x.Attrs) != 0)
		wrong = wrong || x.Kind == token.Open && (!token.Name(x.Name) || x.Text != "")
		if wrong || slices.ContainsFunc(x.Attrs, func(a api.Attr) bool { return !token.Name(a.Name) }) {
			t.Fatalf("Read(%q) has at %d %+v", s, i, x)
		}
	}
	if !strings.Contains(s, "<") && len(got) > 1 {
		t.Fatalf("Read(%q) = %+v", s, got)
	}
	if got, want := token.Tell(s), tellByPattern(s); got != want {
		t.Fatalf("Tell(%q) = %q, want %q", s, got, want)
	}
	for _, quoted := range []bool{false, true} {
		signed := token.Sign(s, quoted)
		if token.Tell(signed) != s || strings.ContainsAny(signed, "<>") || quoted && strings.Contains(signed, `"`) {
			t.Fatalf("Sign(%q, %v) = %q", s, quoted, signed)
		}
	}
	if name := toldName.MatchString(s); token.Name(s) != name {
		t.Fatalf("Name(%q) = %v", s, !name)
	}
}

// P4.3

func TestAllShortTexts(t *testing.T) {
	const bytes = `<>/a ="&`
	for length := range 6 {
		at := make([]byte, length)
		var fill func(i int)
		fill = func(i int) {
			if i == length {
				hold(t, string(at))
				return
			}
			for _, b := range []byte(bytes) {
				at[i] = b
				fill(i + 1)
			}
		}
		fill(0)
	}
}

func TestTextsOfParts(t *testing.T) {
	parts := []string{
		"<", ">", "</", "/", "a", "B", "p", "x1", "-", " ", "\n", "\t", "=", `"`, `="`, `" `, ` a="`, "&", "&lt;", "&amp;", "lt;", ";", "&quot;",
		"<p", "</p>", "<p>", ` id="x"`, " b", name20, name21, "ä", "\xff", "\x00",
	}
	some := rand.New(rand.NewSource(4))
	for range 60000 {
		var s strings.Builder
		for range some.Intn(14) {
			s.WriteString(parts[some.Intn(len(parts))])
		}
		hold(t, s.String())
	}
}

func TestSignedTextIsReadAsItWas(t *testing.T) {
	for _, s := range []string{"a", "<p>", "</p>", "&lt;", `a "b" & <c d="e">`, "&amp;lt;", "\xff<", "<<>>&&"} {
		got, e := token.Read(token.Sign(s, false))
		if e != api.OK || !slices.EqualFunc(got, list(text(s)), same) {
			t.Errorf("%q is read as %+v, %d", s, got, e)
		}
		got, e = token.Read(`<p a="` + token.Sign(s, true) + `">`)
		if e != api.OK || !slices.EqualFunc(got, list(open("p", "a", s)), same) {
			t.Errorf("a value %q is read as %+v, %d", s, got, e)
		}
	}
}

func TestAnswersShareNothing(t *testing.T) {
	const s = `<p a="1" b="2"><p a="1" b="2">x</p>`
	one, _ := token.Read(s)
	two, _ := token.Read(s)
	for i := range one {
		for k := range one[i].Attrs {
			one[i].Attrs[k].Value = "changed"
		}
		one[i].Attrs = append(one[i].Attrs, api.Attr{Name: "c"})
		one[i].Name, one[i].Text = "changed", "changed"
	}
	want := list(open("p", "a", "1", "b", "2"), open("p", "a", "1", "b", "2"), text("x"), shut("p"))
	if !slices.EqualFunc(two, want, same) {
		t.Errorf("another answer is now %+v", two)
	}
	three, _ := token.Read(s)
	three[0].Attrs[0].Value = "changed"
	if !same(three[1], want[1]) {
		t.Errorf("another token of the answer is now %+v", three[1])
	}
	if again, _ := token.Read(s); !slices.EqualFunc(again, want, same) {
		t.Errorf("asked again: %+v", again)
	}
}
