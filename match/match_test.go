package match_test

import (
	"slices"
	"strings"
	"testing"

	"scrim/api"
	"scrim/match"
	"scrim/selector"
	"scrim/tree"
)

// read tells the document of a text.
func read(t *testing.T, s string) []api.Node {
	t.Helper()
	l, e := tree.Read(s)
	if e != api.OK {
		t.Fatalf("%q: %d", s, e)
	}
	return l
}

// sel tells the selector of a text.
func sel(t *testing.T, s string) selector.Selector {
	t.Helper()
	x, is := selector.Read(s)
	if !is {
		t.Fatalf("%q is no selector", s)
	}
	return x
}

// beside are no nodes of a document.
func beside(l []api.Node) []int {
	return []int{-1, -2, -1 << 62, len(l), len(l) + 1, 1 << 62}
}

// checkAll holds which nodes a selector is for, by All, and by Is of each.
func checkAll(t *testing.T, l []api.Node, s string, seen []string, want ...int) {
	t.Helper()
	x := sel(t, s)
	if got := match.All(l, x, seen); !slices.Equal(got, want) {
		t.Errorf("All(%q, %q) = %v, want %v", s, seen, got, want)
	}
	for node := range l {
		is := slices.Contains(want, node)
		if got := match.Is(l, node, x, seen); got != is {
			t.Errorf("Is(%d, %q, %q) = %v", node, s, seen, got)
		}
		if got := match.Simple(l, node, x.Parts[0], seen); len(x.Parts) == 1 && got != is {
			t.Errorf("Simple(%d, %q, %q) = %v", node, s, seen, got)
		}
	}
	for _, node := range beside(l) {
		if match.Is(l, node, x, seen) || match.Simple(l, node, x.Parts[0], seen) {
			t.Errorf("%q is for %d", s, node)
		}
	}
}

// checkLink holds where a node leads, and by which texts it was visited.
func checkLink(t *testing.T, l []api.Node, node int, to string, is bool) {
	t.Helper()
	if got, gotIs := match.Link(l, node); got != to || gotIs != is {
		t.Errorf("Link(%d) = %q, %v, want %q, %v", node, got, gotIs, to, is)
	}
	for _, c := range []struct {
		seen []string
		was  bool
	}{
		{nil, false}, {[]string{to}, is}, {[]string{"x", to, "y"}, is}, {[]string{to, to}, is}, {[]string{to + "x"}, false}, {[]string{"x" + to}, false}, {[]string{to + " "}, false}, {[]string{" " + to, to + "\n"}, false},
	} {
		if got := match.Visited(l, node, c.seen); got != c.was {
			t.Errorf("Visited(%d, %q) = %v", node, c.seen, got)
		}
	}
}

// P11.1

func TestLinks(t *testing.T) {
	// 1 x; 2 a; 3 y; 4 a; 5 a; 6 b; 7 a; 8 z; 9 p; 10 a; 11 img; 12 a
	l := read(t, `x<a href="h">y</a><a></a><a href=""></a><b href="h"><a id="1" href="a b" class="c">z</a></b><p class="href" id="a"><a src="h" name="href"></a><img href="h"></p><a href></a>`)
	if len(l) != 13 {
		t.Fatalf("%d nodes", len(l))
	}
	for node, to := range map[int]string{2: "h", 5: "", 7: "a b", 12: ""} {
		checkLink(t, l, node, to, true)
	}
	for _, node := range append(beside(l), 0, 1, 3, 4, 6, 8, 9, 10, 11) {
		checkLink(t, l, node, "", false)
		if match.Visited(l, node, []string{"", "h", "a b"}) {
			t.Errorf("%d was visited", node)
		}
	}
	// Great letters are others, and so are an attribute's.
	l = read(t, `<a href="H">x</a><A HREF="i"></A>`)
	checkLink(t, l, 1, "H", true)
	checkLink(t, l, 3, "i", true)
	if match.Visited(l, 1, []string{"h"}) || !match.Visited(l, 1, []string{"h", "H"}) {
		t.Error("great letters")
	}
	// Of no nodes at all.
	for _, node := range []int{-1, 0, 1} {
		checkLink(t, nil, node, "", false)
	}
}

func TestLongListsOfWhatWasVisited(t *testing.T) {
	l := read(t, `<a href="9999"></a><a href="10000"></a><a href=""></a>`)
	var seen []string
	for range 10000 {
		seen = append(seen, strings.Repeat("9", len(seen)%5))
	}
	for node, want := range map[int]bool{1: true, 2: false, 3: true} {
		if match.Visited(l, node, seen) != want {
			t.Errorf("Visited(%d) isn't %v", node, want)
		}
	}
}

// P11.2

func TestSimpleOnes(t *testing.T) {
	// 1 div, 2 p, 3 x, 4 b, 5 p, 6 i, 7 img
	l := read(t, `<div id="i" class="c"><p id="j" class=" c  d-1&amp;e	f ">x</p></div><b id="i" class="cd"></b><p id=" i " class=""><i id="" class="C D"></i><img class="c d c"></p>`)
	if len(l) != 8 {
		t.Fatalf("%d nodes", len(l))
	}
	all := []int{1, 2, 4, 5, 6, 7}
	checkAll(t, l, "*", nil, all...)
	for s, want := range map[string][]int{
		"p": {2, 5}, "div": {1}, "b": {4}, "img": {7}, "i": {6}, "x": nil, "root": nil, "a": nil, "pp": nil, "P": {2, 5},
		"#i": {1, 4}, "#j": {2}, "#x": nil, "#i#i": {1, 4}, "#i#j": nil, "#c": nil, "p#i": nil, "b#i": {4}, "div#i#i": {1}, "#I": {1, 4},
		".c": {1, 2, 7}, ".d": {7}, ".cd": {4}, ".e": nil, ".f": {2}, ".c.c": {1, 2, 7}, ".c.d": {7}, ".d.c.d": {7}, ".c.f": {2}, ".c.x": nil, ".i": nil, "p.c": {2}, "div.c": {1}, "b.c": nil, ".d-1": nil, ".C": {1, 2, 7},
		"#i.c": {1}, "#j.c": {2}, "#j.d": nil, "#i.cd": {4}, "div#i.c": {1}, "p#i.c": nil, "b#i.c": nil, "div#j.c": nil,
		":link": nil, ":visited": nil, "p:link": nil,
	} {
		checkAll(t, l, s, nil, want...)
		checkAll(t, l, s, []string{"", "i", "c"}, want...)
	}
	// Each of the blanks is one, of texts as of styles.
	l[2].Attrs[1].Value = "\tc\nd\r\n e\rf "
	for s, want := range map[string][]int{".c": {1, 2, 7}, ".d": {2, 7}, ".e": {2}, ".f": {2}, ".c.d.e.f": {2}} {
		checkAll(t, l, s, nil, want...)
	}
	l[2].Attrs[1].Value = "c\vd\fe\u00a0f"
	for s, want := range map[string][]int{".c": {1, 7}, ".d": {7}, ".e": nil, ".f": nil} {
		checkAll(t, l, s, nil, want...)
	}
	// An attribute of another name is another one.
	l = read(t, `<p class="i" id="c" ids="i" name="i"></p><p i="i" c></p>`)
	for s, want := range map[string][]int{"#i": nil, ".c": nil, "#c": {1}, ".i": {1}, "#c.i": {1}} {
		checkAll(t, l, s, nil, want...)
	}
}

func TestSimpleOnesForLinks(t *testing.T) {
	// 1 a h, 2 a i, 3 a (empty), 4 a (none), 5 b h, 6 x
	l := read(t, `<a href="h" class="c"></a><a href="i"></a><a href=""></a><a class="c"></a><b href="h"></b>x`)
	for _, c := range []struct {
		seen          []string
		link, visited []int
	}{
		{nil, []int{1, 2, 3}, nil}, {[]string{"h"}, []int{2, 3}, []int{1}}, {[]string{"i", "h"}, []int{3}, []int{1, 2}}, {[]string{""}, []int{1, 2}, []int{3}}, {[]string{"", "h", "i", "i"}, nil, []int{1, 2, 3}}, {[]string{"x", "H"}, []int{1, 2, 3}, nil},
	} {
		for _, tag := range []string{"", "*", "a"} {
			checkAll(t, l, tag+":link", c.seen, c.link...)
			checkAll(t, l, tag+":visited", c.seen, c.visited...)
			checkAll(t, l, tag+":link:visited", c.seen)
		}
		for _, tag := range []string{"b", "p"} {
			checkAll(t, l, tag+":link", c.seen)
			checkAll(t, l, tag+":visited", c.seen)
		}
		checkAll(t, l, "a", c.seen, 1, 2, 3, 4)
		for _, s := range []string{".c:link", "a.c:link"} {
			checkAll(t, l, s, c.seen, slices.DeleteFunc(slices.Clone(c.link), func(node int) bool { return node != 1 })...)
		}
		checkAll(t, l, ".c:visited", c.seen, slices.DeleteFunc(slices.Clone(c.visited), func(node int) bool { return node != 1 })...)
	}
}

func TestSimpleOnesWithEmptyLists(t *testing.T) {
	l := read(t, `x<p></p><p id="i" class="c"></p><a href=""></a>`)
	for _, x := range []selector.Simple{{}, {Ids: []string{}, Classes: []string{}}} {
		for node := range l {
			if got := match.Simple(l, node, x, nil); got != (node > 1) {
				t.Errorf("Simple(%d, %+v) = %v", node, x, got)
			}
		}
	}
}

func TestPartsOneInTheOther(t *testing.T) {
	// 1 div i, 2 p c, 3 div, 4 p d, 5 a h, 6 x, 7 b, 8 a i, 9 div, 10 y
	l := read(t, `<div id="i"><p class="c"><div><p class="d"><a href="h">x</a></p><b></b></div></p><a href="i"></a></div><div>y</div>`)
	if len(l) != 11 {
		t.Fatalf("%d nodes", len(l))
	}
	for s, want := range map[string][]int{
		"* *": {2, 3, 4, 5, 7, 8}, "* > *": {2, 3, 4, 5, 7, 8}, "* * *": {3, 4, 5, 7}, "* * * *": {4, 5, 7}, "* > * > * > *": {4, 5, 7}, "* * * * *": {5}, "* > * * > * *": {5}, "* * * * * *": nil,
		"div p": {2, 4}, "div > p": {2, 4}, "p p": {4}, "p > p": nil, "div div": {3}, "div > div": nil, "p div": {3}, "p > div": {3}, "div a": {5, 8}, "div > a": {8}, "p > a": {5}, "p b": {7}, "p > b": nil, "b p": nil, "a p": nil, "a a": nil, "a > a": nil, "p *": {3, 4, 5, 7}, "p > *": {3, 5}, "div *": {2, 3, 4, 5, 7, 8},
		"#i p": {2, 4}, "#i > p": {2}, "#i > div": nil, "#i div": {3}, ".c a": {5}, ".c > a": nil, ".d > a": {5}, "div .d": {4}, "#i .c .d a": {5}, ".d .c a": nil, "#i #i": nil,
		"div p div p a": {5}, "div > p > div > p > a": {5}, "p div a": {5}, "p > div a": {5}, "p div > a": nil, "div > p a": {5}, "div > p > a": {5}, "div > div a": nil, "div p > div": {3},
		// The nearest one above isn't the one that serves.
		"#i > p a": {5}, "#i > p b": {7}, ".c > div a": {5}, "#i > * a": {5}, "#i > .c * a": {5}, "#i > p > * a": {5}, "#i > .d a": nil, ".c > * > a": nil, "#i > * > * > a": nil, "#i > * > * > * > a": {5}, "#i > .c > div > .d a": {5}, "p > * a": {5}, "p > div *": {4, 5, 7},
		// The root is none in which anything stands.
		"root p": nil, "root > div": nil, "root *": nil, "* > div": {3}, "* div": {3}, "root": nil,
		"x p": nil, "x > div": nil, "div x": nil, "div > x": nil, "x *": nil,
		"div :link": {5, 8}, "p > :link": {5}, "a:link *": nil, "div > a:link": {8}, ":visited": nil, "div :visited": nil, ":visited a": nil,
	} {
		checkAll(t, l, s, nil, want...)
	}
	for s, want := range map[string][]int{
		"div :link": {8}, "p > :link": nil, "div :visited": {5}, "p > a:visited": {5}, "div > a:link": {8}, "div > a:visited": nil, "* > a:link:visited": nil,
	} {
		checkAll(t, l, s, []string{"h"}, want...)
	}
}

// What stands in a link hangs on that it was visited.
func TestPartsInLinks(t *testing.T) {
	l := read(t, `<a href="h"><b><i></i></b></a><a href="k"><b></b></a>`) // 1 a, 2 b, 3 i, 4 a, 5 b
	for _, c := range []struct {
		seen          []string
		link, visited []int
	}{{nil, []int{2, 5}, nil}, {[]string{"h"}, []int{5}, []int{2}}, {[]string{"k", "h"}, nil, []int{2, 5}}} {
		checkAll(t, l, "a:link b", c.seen, c.link...)
		checkAll(t, l, ":link > b", c.seen, c.link...)
		checkAll(t, l, "a:visited b", c.seen, c.visited...)
		checkAll(t, l, ":visited > b", c.seen, c.visited...)
		checkAll(t, l, "a b", c.seen, 2, 5)
	}
	checkAll(t, l, ":visited i", []string{"h"}, 3)
	checkAll(t, l, ":visited > i", []string{"h"})
	checkAll(t, l, ":visited > b > i", []string{"h"}, 3)
	checkAll(t, l, ":link i", []string{"h"})
}

func TestAsManyPartsAsMayBe(t *testing.T) {
	l := read(t, strings.Repeat("<p>", api.MostDepth))
	for n := 1; n <= 8; n++ {
		var want []int
		for node := n; node <= api.MostDepth; node++ {
			want = append(want, node)
		}
		for _, between := range []string{" ", " > "} {
			checkAll(t, l, strings.Join(slices.Repeat([]string{"p"}, n), between), nil, want...)
			checkAll(t, l, "p"+strings.Repeat(between+"*", n-1), nil, want...)
		}
		if n > 1 {
			checkAll(t, l, "b"+strings.Repeat(" p", n-1), nil)
			checkAll(t, l, strings.Repeat("p ", n-1)+"b", nil)
			checkAll(t, l, "root"+strings.Repeat(" > p", n-1), nil)
		}
	}
	// Of all that might be tried, nothing serves but what is furthest.
	l = read(t, `<b><p>`+strings.Repeat("<p>", api.MostDepth-2))
	checkAll(t, l, "b > p p p p p p p", nil, 8, 9, 10, 11, 12)
	checkAll(t, l, "b > p > p p p p > p p", nil, 8, 9, 10, 11, 12)
	checkAll(t, l, "b > p > p > p > p > p > p > p", nil, 8)
	checkAll(t, l, "b > b p p p p p p", nil)
}

func TestAllOfManyNodes(t *testing.T) {
	l := read(t, strings.Repeat("<p></p>", api.MostNodes-1))
	var want []int
	for node := 1; node < api.MostNodes; node++ {
		want = append(want, node)
	}
	checkAll(t, l, "p", nil, want...)
	checkAll(t, l, "p p", nil)
	if got := match.All(nil, sel(t, "*"), nil); len(got) != 0 {
		t.Errorf("All of no nodes: %v", got)
	}
	if got := match.All(read(t, ""), sel(t, "*"), nil); len(got) != 0 {
		t.Errorf("All of the root: %v", got)
	}
}
