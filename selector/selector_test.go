package selector_test

import (
	"slices"
	"strings"
	"testing"

	"scrim/selector"
)

var (
	name20 = strings.Repeat("a", 20)
	name21 = strings.Repeat("a", 21)
)

// part makes a part of a tag, and what is behind it: ids by #, classes by a dot, and :link, :visited.
func part(tag string, own ...string) selector.Simple {
	p := selector.Simple{Tag: tag}
	for _, o := range own {
		switch {
		case o == ":link":
			p.Link = true
		case o == ":visited":
			p.Visited = true
		case o[0] == '#':
			p.Ids = append(p.Ids, o[1:])
		default:
			p.Classes = append(p.Classes, o[1:])
		}
	}
	return p
}

// of makes a selector of parts, and of a > or a space for each but the first one.
func of(between string, parts ...selector.Simple) selector.Selector {
	x := selector.Selector{Parts: parts}
	for _, b := range between {
		x.Close = append(x.Close, b == '>')
	}
	return x
}

// equal holds two against each other, field by field.
func equal(a, b selector.Selector) bool {
	if len(a.Parts) != len(b.Parts) || len(a.Close) != len(b.Close) {
		return false
	}
	for i, p := range a.Parts {
		q := b.Parts[i]
		if p.Tag != q.Tag || p.Link != q.Link || p.Visited != q.Visited || strings.Join(p.Ids, " ") != strings.Join(q.Ids, " ") || strings.Join(p.Classes, " ") != strings.Join(q.Classes, " ") {
			return false
		}
	}
	for i := range a.Close {
		if a.Close[i] != b.Close[i] {
			return false
		}
	}
	return true
}

// checkRead holds what a text is read as.
func checkRead(t *testing.T, s string, want selector.Selector) {
	t.Helper()
	if got, is := selector.Read(s); !equal(got, want) || !is {
		t.Errorf("Read(%q) = %+v, %v, want %+v", s, got, is, want)
	}
}

// checkNone holds that texts are no selectors.
func checkNone(t *testing.T, l ...string) {
	t.Helper()
	for _, s := range l {
		if got, is := selector.Read(s); len(got.Parts)+len(got.Close) != 0 || is {
			t.Errorf("Read(%q) = %+v, %v", s, got, is)
		}
	}
}

// P9.1

func TestReadSimpleOnes(t *testing.T) {
	for s, want := range map[string]selector.Simple{
		"a": part("a"), "*": part(""), "x-1": part("x-1"), "a-": part("a-"), name20: part(name20), "root": part("root"), "img": part("img"), "link": part("link"),
		"#i": part("", "#i"), ".c": part("", ".c"), ":link": part("", ":link"), ":visited": part("", ":visited"),
		"*#i": part("", "#i"), "*.c": part("", ".c"), "*:link": part("", ":link"), "*:visited": part("", ":visited"),
		"a#i": part("a", "#i"), "a.c": part("a", ".c"), "a:link": part("a", ":link"), "a:visited": part("a", ":visited"),
		"#i.c": part("", "#i", ".c"), ".c#i": part("", "#i", ".c"), ":link.c#i": part("", "#i", ".c", ":link"), ".c:visited": part("", ".c", ":visited"),
		"p.x#y.z#w:link": part("p", "#y", "#w", ".x", ".z", ":link"), "#" + name20 + "." + name20: part("", "#"+name20, "."+name20),
		"#link.visited": part("", "#link", ".visited"), "#a-1.b--": part("", "#a-1", ".b--"),
		// Parts of a sort may come again.
		"#i#j#i": part("", "#i", "#j", "#i"), ".c.c": part("", ".c", ".c"), ":link:link": part("", ":link"), ":visited:link:visited": part("", ":link", ":visited"),
		// Great letters are small ones.
		"DIV": part("div"), "#I.C": part("", "#i", ".c"), "a:LINK:Visited": part("a", ":link", ":visited"), strings.ToUpper(name20): part(name20),
		"a.c.c.c.c.c.c.c.c": part("a", ".c", ".c", ".c", ".c", ".c", ".c", ".c", ".c"), "*#i#i#i.c.c.c:link:visited": part("", "#i", "#i", "#i", ".c", ".c", ".c", ":link", ":visited"),
	} {
		checkRead(t, s, of("", want))
		for _, b := range []string{" ", "\t", "\r\n", " \n\t"} {
			checkRead(t, b+s+b, of("", want))
		}
	}
}

func TestReadNoSimpleOnes(t *testing.T) {
	simple := []string{
		"1", "-", "-a", "1a", "a_", "ä", "aä", "a\x00", "a\xff", "a+b", "a~b", "a[b]", "a(b)", "a\\b", "a/b", "a|b", "a!", "\"a\"", "&", "{", "a{b}", "a;",
		"#", ".", ":", "a#", "a.", "a:", "#1", ".1", ".-a", "#_", "#ä", "##i", "..c", "#.c", ".#i", "#i.", ".c#", "#i#", "#*", ".*", "a.b*",
		":hover", ":lin", ":links", ":link-", ":link1", ":linkvisited", "::link", ":visite", ":visiteds", ":link:", ":a", "a:link:hover", ":link(a)", ":first-child",
		"**", "*a", "a*", "*1", "*#", "*.c*", name21, "#" + name21, "." + name21, "a." + name21 + ".c", strings.ToUpper(name21),
		strings.Repeat(".c", 9), "a" + strings.Repeat("#i", 9), "a#i#i#i#i.c.c.c:link:visited", "a.c.c.c.c.c.c.c.c:link", strings.Repeat(".c", 8) + "#i",
		"/*x*/a", "a/**/", "\va", "a\f", "a\u00a0", "\u212a",
	}
	checkNone(t, simple...)
	for _, s := range simple {
		checkNone(t, " "+s+" ", "b "+s, s+" b", "b>"+s, s+" > b", "b "+s+" c")
	}
	// Parts that come again are parts, each one.
	checkRead(t, strings.Repeat(":link", 8), of("", part("", ":link")))
	checkNone(t, strings.Repeat(":link", 9), ".c.c.c.c.c.c.c:link:link")
}

func TestReadParts(t *testing.T) {
	a, b, c := part("a"), part("b"), part("", ".c")
	for s, want := range map[string]selector.Selector{
		"a b": of(" ", a, b), "a>b": of(">", a, b), "a > b": of(">", a, b), "a> b": of(">", a, b), "a >b": of(">", a, b),
		"a\tb": of(" ", a, b), "a\n\r b": of(" ", a, b), "a\n>\tb": of(">", a, b), "a  >  b": of(">", a, b), "  a >b\n": of(">", a, b),
		"a b>.c": of(" >", a, b, c), "a>b .c": of("> ", a, b, c), "a > b > .c": of(">>", a, b, c), "a b .c": of("  ", a, b, c),
		"* *": of(" ", part(""), part("")), "*>*": of(">", part(""), part("")), "a a": of(" ", a, a), "A>B .C": of("> ", a, b, c),
		"a#i.c:link>b:visited": of(">", part("a", "#i", ".c", ":link"), part("b", ":visited")),
		"a .c":                 of(" ", a, c), "a.c": of("", part("a", ".c")), "a :link": of(" ", a, part("", ":link")), "a *.c": of(" ", a, c), "DIV > a.x:visited  #i": of("> ", part("div"), part("a", ".x", ":visited"), part("", "#i")),
	} {
		checkRead(t, s, want)
	}
	checkNone(t, "", " ", "\n\t", ">", " > ", ">>", "> >", "> a", ">a", "a >", "a>", "a > > b", "a>>b", "a > >b", "a b >", "> a b", "a > b > > c", "a > b >", "a,b", "a , b", ",", "a b,", "a >, b", "a # i", "a . c", "a : link", "a: link", ".c >#")
}

func TestReadAsManyPartsAsMayBe(t *testing.T) {
	for n := 1; n <= 8; n++ {
		parts := slices.Repeat([]selector.Simple{part("a")}, n)
		for _, b := range []string{" ", ">", "  >\n"} {
			x := of(strings.Repeat(string(b[len(b)/2]), n-1), parts...)
			checkRead(t, strings.Join(slices.Repeat([]string{"a"}, n), b), x)
		}
		own := strings.Repeat(".c", n)
		checkRead(t, own+" "+own, of(" ", part("", slices.Repeat([]string{".c"}, n)...), part("", slices.Repeat([]string{".c"}, n)...)))
	}
	eight := "p.c.c.c.c.c.c:link:visited"
	if x, is := selector.Read(strings.Join(slices.Repeat([]string{eight}, 8), ">")); len(x.Parts) != 8 || !is {
		t.Errorf("%+v, %v", x, is)
	}
	for _, b := range []string{" ", ">", " > "} {
		checkNone(t, strings.Join(slices.Repeat([]string{"a"}, 9), b), strings.Join(slices.Repeat([]string{"a"}, 100000), b))
	}
	checkNone(t, strings.Repeat(".c", 100000), strings.Repeat("a", 1<<20), strings.Repeat(">", 1<<20), strings.Repeat(" ", 1<<20))
}

func TestList(t *testing.T) {
	a, b, c := part("a"), part("b"), part("", ".c")
	for _, l := range []struct {
		s    string
		want []selector.Selector
	}{
		{"a", []selector.Selector{of("", a)}},
		{" a ", []selector.Selector{of("", a)}},
		{"a,b", []selector.Selector{of("", a), of("", b)}},
		{"a , b > .c\n,.c", []selector.Selector{of("", a), of(">", b, c), of("", c)}},
		{"a,a,A", []selector.Selector{of("", a), of("", a), of("", a)}},
		{strings.Repeat("*,", 99) + "*", slices.Repeat([]selector.Selector{of("", part(""))}, 100)},
		// An empty one, or one that is none: none of all.
		{"", nil}, {" ", nil}, {",", nil}, {"a,", nil}, {",a", nil}, {"a,,b", nil}, {"a, ,b", nil}, {"a,b,", nil}, {"a,+", nil}, {"1,a", nil}, {"a;b", nil},
		{"a,b >,c", nil}, {"a," + strings.Repeat("a ", 9), nil}, {"a,b," + name21, nil},
	} {
		got, is := selector.List(l.s)
		if is != (l.want != nil) || !slices.EqualFunc(got, l.want, equal) {
			t.Errorf("List(%q) = %+v, %v, want %+v", l.s, got, is, l.want)
		}
	}
}

// P9.2

// wrong are selectors that may not be, each for one reason.
func wrong() []selector.Selector {
	a := part("a")
	nine := slices.Repeat([]selector.Simple{a}, 9)
	l := []selector.Selector{
		{}, {Parts: []selector.Simple{}}, of(" ", []selector.Simple{}...), of(" ", a), of(">", a), of("", a, a), of("  ", a, a), of(strings.Repeat(" ", 8), nine...), of(strings.Repeat(" ", 7), nine...), of(strings.Repeat(" ", 8), nine[1:]...),
		of("", part("a", strings.Fields(strings.Repeat(".c ", 9))...)), of("", part("", strings.Fields(strings.Repeat("#i ", 9))...)), of("", part("a", "#i", "#i", "#i", "#i", ".c", ".c", ".c", ".c", ":link")),
		of("", part("", ".c", ".c", ".c", ".c", ".c", ".c", ".c", ":link", ":visited")),
	}
	for _, name := range []string{"A", "1", "-a", "a b", "a_", "*", "ä", "a.b", "a:link", name21, " a", "a "} {
		l = append(l, of("", part(name)), of("", part("", "#"+name)), of("", part("", "."+name)), of("", part("a", "#i", "#"+name)), of("", part("a", ".c", "."+name)), of(" ", a, part(name)), of(" ", part(name), a))
	}
	return append(l, of("", part("", "#")), of("", part("", ".")), of("", part("a", "#i", "#")))
}

func TestMayAndPrint(t *testing.T) {
	a, b, c := part("a"), part("b"), part("", ".c")
	for _, x := range []struct {
		x    selector.Selector
		want string
	}{
		{of("", a), "a"}, {of("", part("")), "*"}, {of("", part("root")), "root"}, {of("", part(name20)), name20},
		{of("", part("", "#i")), "#i"}, {of("", c), ".c"}, {of("", part("", ":link")), ":link"}, {of("", part("", ":visited")), ":visited"},
		{of("", part("a", ".d", "#j", ":visited", ".c", "#i", ":link")), "a#j#i.d.c:link:visited"}, {of("", part("", ":visited", ":link")), ":link:visited"}, {of("", part("a", ":visited")), "a:visited"},
		{of("", part("", "#i", "#i", ".c", ".c")), "#i#i.c.c"},
		{of(" ", a, b), "a b"}, {of(">", a, b), "a > b"}, {of("> ", a, b, c), "a > b .c"}, {of(" >", a, b, c), "a b > .c"}, {of(">", part(""), part("")), "* > *"},
		{of("", part("a", strings.Fields(strings.Repeat(".c ", 8))...)), "a" + strings.Repeat(".c", 8)}, {of("", part("a", "#i", "#i", "#i", ".c", ".c", ".c", ":link", ":visited")), "a#i#i#i.c.c.c:link:visited"},
		{of(strings.Repeat(">", 7), slices.Repeat([]selector.Simple{a}, 8)...), "a" + strings.Repeat(" > a", 7)},
		{selector.Selector{Parts: []selector.Simple{{Ids: []string{}, Classes: []string{}}}, Close: []bool{}}, "*"},
	} {
		if got := selector.Print(x.x); got != x.want || !selector.May(x.x) {
			t.Errorf("Print(%+v) = %q, want %q", x.x, got, x.want)
		}
	}
	for _, x := range wrong() {
		if got := selector.Print(x); got != "" || selector.May(x) {
			t.Errorf("Print(%+v) = %q", x, got)
		}
	}
}

func TestWeight(t *testing.T) {
	for s, want := range map[string]int{
		"*": 0, "a": 1, "#i": 10000, ".c": 100, ":link": 100, ":visited": 100, ":link:visited": 200, ":link:link": 100, "#i#i": 20000, ".c.c.c": 300,
		"a#i.c:link": 10201, "a b": 2, "a > b": 2, "* > *": 0, "a#i > b.c *:visited": 10202, strings.Repeat("a ", 8): 8, "a" + strings.Repeat("#i", 8): 80001,
	} {
		x, is := selector.Read(s)
		if got := selector.Weight(x); got != want || !is {
			t.Errorf("Weight of %q is %d, want %d", s, got, want)
		}
	}
	if got := selector.Weight(selector.Selector{}); got != 0 {
		t.Errorf("Weight of nothing is %d", got)
	}
	for _, x := range wrong() {
		selector.Weight(x)
	}
}

func TestSame(t *testing.T) {
	all := []selector.Selector{
		{}, of("", part("")), of("", part("a")), of("", part("b")), of("", part("", "#a")), of("", part("", ".a")), of("", part("", ":link")), of("", part("", ":visited")), of("", part("", ":link", ":visited")),
		of("", part("a", "#i")), of("", part("a", "#i", "#j")), of("", part("a", "#j", "#i")), of("", part("a", "#i", "#i")), of("", part("a", ".i")), of("", part("a", ".i", ".j")), of("", part("a", ".j", ".i")),
		of(" ", part("a"), part("b")), of(">", part("a"), part("b")), of(" ", part("b"), part("a")), of("", part("a"), part("b")), of(" ", part("a")),
		of("> ", part("a"), part("b"), part("")), of(" >", part("a"), part("b"), part("")), of("", part("A")), of("", part("", "#A")), of("", part("", "#", "#")), of("", part("", "#")), of("", part("", "#i j")), of("", part("", "#i", "#j")),
	}
	for i, a := range all {
		for k, b := range all {
			if got := selector.Same(a, b); got != (i == k) {
				t.Errorf("Same(%+v, %+v) = %v", a, b, got)
			}
		}
	}
	// An empty list and none are one.
	if !selector.Same(selector.Selector{Parts: []selector.Simple{{}}}, selector.Selector{Parts: []selector.Simple{{Ids: []string{}, Classes: []string{}}}, Close: []bool{}}) || !selector.Same(selector.Selector{}, selector.Selector{Parts: []selector.Simple{}}) {
		t.Error("empty lists")
	}
}
