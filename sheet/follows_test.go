package sheet_test

import (
	"math/rand"
	"regexp"
	"slices"
	"strings"
	"testing"

	"scrim/api"
	"scrim/selector"
	"scrim/sheet"
	"scrim/value"
)

// What the chapter's words say, as patterns; what a name, a value and a selector are the layers below tell.
var (
	aRemark = regexp.MustCompile(`(?s)/\*.*?(?:\*/|\z)`)
	aBlock  = regexp.MustCompile(`([^{}]*)(?:\{([^}]*)\}|\})`)
	aDecl   = regexp.MustCompile(`\A[ \t\n\r]*([a-z-]*)[ \t\n\r]*:(.*)\z`)
	aStrong = regexp.MustCompile(`(?s)\A(.*)!important[ \t\n\r]*\z`)
	aWord   = regexp.MustCompile(`[^ \t\n\r]+`)
)

// shortOnes are the sides' properties, from the left one that is told by four values to the one that is told by one.
var shortOnes = map[string][4]string{
	"margin":       {"margin-top", "margin-right", "margin-bottom", "margin-left"},
	"padding":      {"padding-top", "padding-right", "padding-bottom", "padding-left"},
	"border-width": {"border-top-width", "border-right-width", "border-bottom-width", "border-left-width"},
}

func small(s string) string {
	return strings.Map(func(r rune) rune {
		if 'A' <= r && r <= 'Z' {
			return r - 'A' + 'a'
		}
		return r
	}, s)
}

// wantedDecls tells the declarations of one text.
func wantedDecls(part string) []sheet.Decl {
	m := aDecl.FindStringSubmatch(strings.NewReplacer("\n", " ", "\r", " ").Replace(small(part)))
	if m == nil {
		return nil
	}
	name, text, isStrong := m[1], m[2], false
	if m := aStrong.FindStringSubmatch(text); m != nil {
		text, isStrong = m[1], true
	}
	names, texts := []string{name}, []string{text}
	if sides, is := shortOnes[name]; is {
		v := aWord.FindAllString(text, -1)
		switch len(v) {
		case 1:
			texts = []string{v[0], v[0], v[0], v[0]}
		case 2:
			texts = []string{v[0], v[1], v[0], v[1]}
		case 3:
			texts = []string{v[0], v[1], v[2], v[1]}
		case 4:
			texts = v
		default:
			return nil
		}
		names = sides[:]
	}
	var l []sheet.Decl
	for i, name := range names {
		v, is := value.Read(value.Prop(name), texts[i])
		if !is {
			return nil
		}
		l = append(l, sheet.Decl{Prop: value.Prop(name), Value: v, Strong: isStrong})
	}
	return l
}

// wantedRules tells what a text is read as.
func wantedRules(s string) ([]sheet.Rule, api.Errno) {
	if len(s) > api.MostBytes {
		return nil, api.ErrFull
	}
	var l []sheet.Rule
	for _, m := range aBlock.FindAllStringSubmatch(aRemark.ReplaceAllString(s, " "), -1) {
		if !strings.Contains(m[0], "{") {
			continue
		}
		sels, is := selector.List(m[1])
		if !is {
			continue
		}
		r := sheet.Rule{Sels: sels}
		for _, part := range strings.Split(m[2], ";") {
			r.Decls = append(r.Decls, wantedDecls(part)...)
		}
		l = append(l, r)
	}
	if len(l) > api.MostRules {
		return nil, api.ErrFull
	}
	return l, api.OK
}

// mayByWords asks the chapter's words.
func mayByWords(l []sheet.Rule) bool {
	may := len(l) <= 40
	for _, r := range l {
		may = may && len(r.Sels) >= 1 && len(r.Sels) <= 20 && len(r.Decls) <= 60
		for _, x := range r.Sels {
			may = may && selector.May(x)
		}
		for _, d := range r.Decls {
			may = may && value.May(d.Prop, d.Value)
		}
	}
	return may
}

// printed tells the text of rules that may be.
func printed(l []sheet.Rule) string {
	s := ""
	for _, r := range l {
		for i, x := range r.Sels {
			if i > 0 {
				s += ", "
			}
			s += selector.Print(x)
		}
		s += " {"
		for _, d := range r.Decls {
			s += " " + value.Name(d.Prop) + ": " + value.Print(d.Prop, d.Value)
			if d.Strong {
				s += " !important"
			}
			s += ";"
		}
		s += " }\n"
	}
	return s
}

// holdRules holds what follows of any rules.
func holdRules(t *testing.T, l []sheet.Rule) bool {
	t.Helper()
	may, text := sheet.May(l), sheet.Print(l)
	if may != mayByWords(l) {
		t.Fatalf("May(%v) = %v", l, may)
	}
	if !may {
		if text != "" {
			t.Fatalf("%v may not be, and is printed as %q", l, text)
		}
		return false
	}
	if text != printed(l) {
		t.Fatalf("%v is printed as %q, want %q", l, text, printed(l))
	}
	if again, e := sheet.Read(text); len(text) <= api.MostBytes && (e != api.OK || !equal(again, l) || !sheet.Same(again, l)) {
		t.Fatalf("%q is read as %v, %d", text, again, e)
	}
	return true
}

// P10.4

func someOf(some *rand.Rand, from []string, most int) string {
	var s strings.Builder
	for range some.Intn(most + 1) {
		s.WriteString(from[some.Intn(len(from))])
	}
	return s.String()
}

// someDecl is a text that is a declaration, or is like one.
func someDecl(some *rand.Rand) string {
	names := []string{"top", "left", "COLOR", "order", "width", "margin", "Padding", "border-width", "margin-left", "display", "x", "to p", ""}
	texts := []string{"1px", "2PX", "0", "auto", "red", "#00FF00", "50%", "-1px", "3", "block", "x", "1px 2px", "1px 2px 3px", "auto 1px", "1px 2px 3px 4px", "0 0 0 0 0", ""}
	blank := func() string { return someOf(some, []string{" ", "\t", "\n", "\r", "/**/"}, 1) }
	signs := []string{"", "", "!important", "! important", " !IMPORTANT", "!important!important", "!"}
	colons := []string{":", ":", ":", ":", ":", ":", "::", ""}
	return blank() + names[some.Intn(len(names))] + blank() + colons[some.Intn(len(colons))] + blank() + texts[some.Intn(len(texts))] + blank() + signs[some.Intn(len(signs))] + blank()
}

func TestTextsOfDecls(t *testing.T) {
	some := rand.New(rand.NewSource(10))
	are := 0
	for range 30000 {
		var parts []string
		for range some.Intn(6) {
			parts = append(parts, strings.ReplaceAll(someDecl(some), "/**/", " "))
		}
		s := strings.Join(parts, ";")
		var want []sheet.Decl
		for _, part := range parts {
			l := wantedDecls(part)
			if len(l) > 0 {
				are++
			}
			if got := sheet.Decls(part); !slices.Equal(got, l) {
				t.Fatalf("Decls(%q) = %v, want %v", part, got, l)
			}
			// What is none changes nothing of the others.
			want = append(want, l...)
		}
		if got := sheet.Decls(s); !slices.Equal(got, want) {
			t.Fatalf("Decls(%q) = %v, want %v", s, got, want)
		}
	}
	if are < 5000 {
		t.Errorf("no more than %d are declarations", are)
	}
}

func TestTextsOfRules(t *testing.T) {
	some := rand.New(rand.NewSource(11))
	heads := []string{"a", "B", "*", "a, b", ".c > #i", "a:link", ":VISITED", " a\n", "a b > c", "/*x*/a", "a/*,*/b", "a,", "+", "", "a{", "a}", "1"}
	closes := []string{"}", "}", "}", "}\n", "/*}*/}", "}}", "}/*", ""}
	ends := map[api.Errno]int{}
	rules := 0
	for range 20000 {
		var s strings.Builder
		// Of many, all are rules but few.
		most, wrong := 4, 1
		if some.Intn(4) == 0 {
			most, wrong = 60, some.Intn(2)
		}
		for range some.Intn(most + 1) {
			var parts []string
			for range some.Intn(4) {
				parts = append(parts, someDecl(some))
			}
			s.WriteString(heads[some.Intn(len(heads)-6+6*wrong)] + "{" + strings.Join(parts, ";") + closes[some.Intn(len(closes)-3+3*wrong)])
		}
		got, e := sheet.Read(s.String())
		want, wantErrno := wantedRules(s.String())
		if e != wantErrno || !equal(got, want) {
			t.Fatalf("Read(%q) = %v, %d, want %v, %d", s.String(), got, e, want, wantErrno)
		}
		ends[e]++
		rules += len(got)
		holdRules(t, got)
	}
	if ends[api.OK] < 1000 || ends[api.ErrFull] < 100 || rules < 10000 {
		t.Errorf("%v, %d rules", ends, rules)
	}
}

func TestAllShortTexts(t *testing.T) {
	parts := []string{"a", "{", "}", "top:1px", ";", "/*", "*/", ","}
	for length := range 6 {
		at := make([]string, length)
		var fill func(i int)
		fill = func(i int) {
			if i == length {
				s := strings.Join(at, "")
				got, e := sheet.Read(s)
				if want, _ := wantedRules(s); e != api.OK || !equal(got, want) {
					t.Fatalf("Read(%q) = %v, %d, want %v", s, got, e, want)
				}
				return
			}
			for _, part := range parts {
				at[i] = part
				fill(i + 1)
			}
		}
		fill(0)
	}
}

// someValue is one that may be, mostly.
func someValue(some *rand.Rand, prop int) api.Value {
	if some.Intn(300) == 0 {
		return api.Value{Kind: some.Intn(8) - 1, N: int64(some.Intn(9) - 4)}
	}
	for {
		v := api.Value{Kind: 1 + some.Intn(6), N: []int64{0, 1, 2, 3, 64, 96, 6400, 0xff0000, -1, -64, 999999999*64 + 63}[some.Intn(11)]}
		if value.May(prop, v) {
			return v
		}
	}
}

func TestRulesOfParts(t *testing.T) {
	some := rand.New(rand.NewSource(12))
	heads := []string{"a", "*", ".c > #i", "a:link b", ":visited", "a#i.c.d:link:visited > b c"}
	may := map[bool]int{}
	many := func(few, most int) int {
		if some.Intn(100) == 0 {
			return some.Intn(most + 2)
		}
		return some.Intn(few)
	}
	for range 10000 {
		var l []sheet.Rule
		for range many(5, api.MostRules) {
			var r sheet.Rule
			for range 1 + many(4, 20) {
				x, _ := selector.Read(heads[some.Intn(len(heads))])
				if some.Intn(400) == 0 {
					x.Close = append(x.Close, true)
				}
				r.Sels = append(r.Sels, x)
			}
			for range many(6, 60) {
				prop := 1 + some.Intn(value.Many-1)
				r.Decls = append(r.Decls, sheet.Decl{Prop: prop, Value: someValue(some, prop), Strong: some.Intn(3) == 0})
			}
			l = append(l, r)
		}
		may[holdRules(t, l)]++
	}
	if may[true] < 5000 || may[false] < 100 {
		t.Errorf("%v", may)
	}
}

func TestAnswersShareNothing(t *testing.T) {
	const s = "a.x > b#i, c { margin: 1px; top: 2px !important; } d { left: 3px; }"
	one, _ := sheet.Read(s)
	two, _ := sheet.Read(s)
	text := sheet.Print(two)
	one[0].Sels[0].Parts[0].Classes[0], one[0].Sels[0].Close[0] = "y", false
	one[0].Sels[1] = selector.Selector{}
	one[0].Decls[0], one[0].Decls[4].Strong = sheet.Decl{}, false
	one[0].Decls = append(one[0].Decls[:1], sheet.Decl{})
	one[1] = sheet.Rule{}
	if got := sheet.Print(two); got != text || text == "" {
		t.Errorf("another answer is now %q", got)
	}
	decls := sheet.Decls("margin: 1px; top: 2px")
	kept := slices.Clone(sheet.Decls("margin: 1px; top: 2px"))
	clear(sheet.Decls("margin: 1px; top: 2px"))
	if !slices.Equal(decls, kept) {
		t.Errorf("declarations are now %v", decls)
	}
}

func TestAskingChangesNothing(t *testing.T) {
	l, other := fresh(t), fresh(t)
	for range 2 {
		sheet.May(l)
		sheet.Same(l, other)
		if got := sheet.Print(l); got != freshText || !equal(l, fresh(t)) || !equal(other, fresh(t)) {
			t.Errorf("it is now %q", got)
		}
	}
}
