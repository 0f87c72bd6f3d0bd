package selector_test

import (
	"math/rand"
	"regexp"
	"strings"
	"testing"

	"scrim/selector"
)

// What the chapter's words say, as patterns; how many there may be of each thing is asked apart.
const (
	aName   = `[a-z][a-z0-9-]*`
	onePart = `(?:[#.]` + aName + `|:link|:visited)`
	simple  = `(?:(?:\*|` + aName + `)` + onePart + `*|` + onePart + `+)`
	blank   = `[ \t\n\r]`
)

var (
	toldName  = regexp.MustCompile(`\A[a-z][a-z0-9-]{0,19}\z`)
	aSelector = regexp.MustCompile(`\A` + simple + `(?:(?:` + blank + `*>` + blank + `*|` + blank + `+)` + simple + `)*\z`)
	aSimple   = regexp.MustCompile(simple)
	aTag      = regexp.MustCompile(`\A` + aName)
	aPart     = regexp.MustCompile(onePart)
)

// told is a text, trimmed and in small letters.
func told(s string) string {
	return strings.Map(func(r rune) rune {
		if 'A' <= r && r <= 'Z' {
			return r - 'A' + 'a'
		}
		return r
	}, strings.Trim(s, " \t\n\r"))
}

// readByPattern tells what a text is read as.
func readByPattern(s string) (selector.Selector, bool) {
	s = told(s)
	if !aSelector.MatchString(s) {
		return selector.Selector{}, false
	}
	var x selector.Selector
	end := 0
	for _, at := range aSimple.FindAllStringIndex(s, -1) {
		if at[0] > 0 {
			x.Close = append(x.Close, strings.Contains(s[end:at[0]], ">"))
		}
		text := s[at[0]:at[1]]
		end = at[1]
		own := aPart.FindAllString(text, -1)
		if len(own) > 8 {
			return selector.Selector{}, false
		}
		x.Parts = append(x.Parts, part(aTag.FindString(text), own...))
	}
	return x, mayByWords(x)
}

// mayByWords asks the chapter's words.
func mayByWords(x selector.Selector) bool {
	may := len(x.Parts) >= 1 && len(x.Parts) <= 8 && len(x.Close) == len(x.Parts)-1
	for _, p := range x.Parts {
		own := len(p.Ids) + len(p.Classes)
		if p.Link {
			own++
		}
		if p.Visited {
			own++
		}
		may = may && own <= 8 && (p.Tag == "" || toldName.MatchString(p.Tag))
		for _, name := range append(append([]string{}, p.Ids...), p.Classes...) {
			may = may && toldName.MatchString(name)
		}
	}
	return may
}

// holdSelector holds what follows of what may be.
func holdSelector(t *testing.T, x selector.Selector) {
	t.Helper()
	text := selector.Print(x)
	again, is := selector.Read(text)
	if !is || !equal(again, x) || !selector.Same(again, x) || !selector.Same(x, again) || selector.Weight(again) != selector.Weight(x) {
		t.Fatalf("%+v is printed as %q, read as %+v, %v", x, text, again, is)
	}
	// Blanks and great letters change nothing.
	wide := strings.NewReplacer(" > ", "\t>\n", " ", "\r\n ").Replace(text)
	for _, s := range []string{strings.ToUpper(text), " " + text + "\n", strings.ReplaceAll(text, " > ", ">"), wide, strings.ToUpper(wide)} {
		if again, is := selector.Read(s); !is || !selector.Same(again, x) {
			t.Fatalf("%q is read as %+v, %v, want %+v", s, again, is, x)
		}
	}
}

// hold holds all that follows of one text.
func hold(t *testing.T, s string) bool {
	t.Helper()
	got, is := selector.Read(s)
	want, wantIs := readByPattern(s)
	if !wantIs {
		want = selector.Selector{}
	}
	if is != wantIs || !equal(got, want) {
		t.Fatalf("Read(%q) = %+v, %v, want %+v, %v", s, got, is, want, wantIs)
	}
	if is {
		if !selector.May(got) {
			t.Fatalf("Read(%q) = %+v, which may not be", s, got)
		}
		holdSelector(t, got)
	}
	if l, isList := selector.List(s); !strings.Contains(s, ",") && (isList != is || is && (len(l) != 1 || !equal(l[0], got))) {
		t.Fatalf("List(%q) = %+v, %v", s, l, isList)
	}
	return is
}

// P9.3

func TestAllShortTexts(t *testing.T) {
	const bytes = "a> *.#1"
	for length := range 7 {
		at := make([]byte, length)
		var fill func(i int)
		fill = func(i int) {
			if i == length {
				hold(t, string(at))
				return
			}
			for _, b := range []byte(bytes) {
				at[i] = b
				fill(i + 1)
			}
		}
		fill(0)
	}
}

func TestTextsOfParts(t *testing.T) {
	parts := []string{"a", "B", "x-1", "*", "#i", "#J", ".c", ".D", ":link", ":visited", ":LINK", ":", ">", " > ", " ", "\n", "\t", ".c.d", "#i.c", name20, name21, ",", "1", "-", "ä", "\xff"}
	some := rand.New(rand.NewSource(9))
	are := 0
	for range 60000 {
		var s strings.Builder
		// Few of those behind are parts, and one of them is enough to make none of all.
		among := 12 + some.Intn(len(parts)-11)
		for range some.Intn(20) {
			s.WriteString(parts[some.Intn(min(among, len(parts)))])
		}
		if hold(t, s.String()) {
			are++
		}
	}
	if are < 1000 {
		t.Errorf("no more than %d are selectors", are)
	}
}

func TestSelectorsOfParts(t *testing.T) {
	names := []string{"a", "b", "x-1", name20, "link"}
	wrongNames := []string{"", "A", "1", name21}
	some := rand.New(rand.NewSource(10))
	name := func() string {
		if some.Intn(200) == 0 {
			return wrongNames[some.Intn(len(wrongNames))]
		}
		return names[some.Intn(len(names))]
	}
	may := map[bool]int{}
	for range 30000 {
		var x selector.Selector
		for range some.Intn(10) {
			p := selector.Simple{Link: some.Intn(3) == 0, Visited: some.Intn(3) == 0}
			if some.Intn(2) == 0 {
				p.Tag = name()
			}
			for range some.Intn(5) {
				p.Ids = append(p.Ids, name())
			}
			for range some.Intn(5) {
				p.Classes = append(p.Classes, name())
			}
			x.Parts = append(x.Parts, p)
			x.Close = append(x.Close, some.Intn(2) == 0)
		}
		if len(x.Close) > 0 && some.Intn(50) > 0 {
			x.Close = x.Close[1:]
		}
		is := selector.May(x)
		if is != mayByWords(x) || is != (selector.Print(x) != "") {
			t.Fatalf("May(%+v) = %v, printed as %q", x, is, selector.Print(x))
		}
		if may[is]++; is {
			holdSelector(t, x)
		}
	}
	if may[true] < 1000 || may[false] < 1000 {
		t.Errorf("%v", may)
	}
}

func TestAnswersShareNothing(t *testing.T) {
	const s = "a#i.c > b#j.d"
	one, _ := selector.Read(s)
	two, _ := selector.Read(s)
	one.Parts[0].Ids[0], one.Parts[0].Classes[0], one.Close[0] = "x", "x", false
	one.Parts[0].Ids = append(one.Parts[0].Ids, "y")
	one.Parts[1] = selector.Simple{}
	if got := selector.Print(two); got != s {
		t.Errorf("another answer is now %q", got)
	}
	l, _ := selector.List(s + "," + s)
	l[0].Parts[0].Ids[0], l[0].Close[0] = "x", false
	if got := selector.Print(l[1]); got != s {
		t.Errorf("another one of the list is now %q", got)
	}
}

func TestAskingChangesNothing(t *testing.T) {
	x, _ := selector.Read("a#i.c:link > b *")
	for range 2 {
		selector.May(x)
		selector.Weight(x)
		selector.Same(x, x)
		if got := selector.Print(x); got != "a#i.c:link > b *" {
			t.Errorf("it is now %q", got)
		}
	}
}
