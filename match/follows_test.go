package match_test

import (
	"math/rand"
	"slices"
	"strings"
	"testing"

	"scrim/api"
	"scrim/match"
	"scrim/selector"
	"scrim/tree"
)

// attr tells an attribute of a node, by the list itself.
func attr(n api.Node, name string) (string, bool) {
	for _, a := range n.Attrs {
		if a.Name == name {
			return a.Value, true
		}
	}
	return "", false
}

// linkByWords, simpleByWords and isByWords ask the chapter's words.
func linkByWords(l []api.Node, node int) (string, bool) {
	if node < 0 || node >= len(l) || l[node].Tag != "a" {
		return "", false
	}
	return attr(l[node], "href")
}

func simpleByWords(l []api.Node, node int, x selector.Simple, seen []string) bool {
	if node < 1 || node >= len(l) || l[node].Tag == "" {
		return false
	}
	n := l[node]
	is := x.Tag == "" || x.Tag == n.Tag
	for _, id := range x.Ids {
		v, has := attr(n, "id")
		is = is && has && v == id
	}
	for _, class := range x.Classes {
		v, _ := attr(n, "class")
		is = is && strings.Contains(" "+strings.NewReplacer("\t", " ", "\n", " ", "\r", " ").Replace(v)+" ", " "+class+" ")
	}
	to, isLink := linkByWords(l, node)
	was := isLink && slices.Contains(seen, to)
	return is && (!x.Link || isLink && !was) && (!x.Visited || was)
}

func isByWords(l []api.Node, node int, x selector.Selector, seen []string) bool {
	last := len(x.Parts) - 1
	if !simpleByWords(l, node, x.Parts[last], seen) {
		return false
	}
	if last == 0 {
		return true
	}
	without := selector.Selector{Parts: x.Parts[:last], Close: x.Close[:last-1]}
	if x.Close[last-1] {
		return isByWords(l, l[node].Parent, without, seen)
	}
	for above := l[node].Parent; above >= 0; above = l[above].Parent {
		if isByWords(l, above, without, seen) {
			return true
		}
	}
	return false
}

// someDocument is one of few tags, ids, classes and links.
func someDocument(some *rand.Rand) []api.Node {
	for {
		tags := []string{"a", "b", "p"}
		attrs := []string{"", "", "", ` id="i"`, ` id="j"`, ` class="c"`, ` class="c d"`, ` class=" d	cc "`, ` class="e"`, ` href="h"`, ` href="k"`, ` href=""`}
		var s strings.Builder
		for range some.Intn(30) {
			switch some.Intn(5) {
			case 0:
				s.WriteString("x")
			case 1:
				s.WriteString("</" + tags[some.Intn(3)] + ">")
			default:
				s.WriteString("<" + tags[some.Intn(3)] + attrs[some.Intn(6)] + attrs[some.Intn(len(attrs))] + ">")
			}
		}
		if l, e := tree.Read(s.String()); e == api.OK {
			return l
		}
	}
}

func someSimple(some *rand.Rand) selector.Simple {
	x := selector.Simple{Tag: []string{"", "", "", "a", "b", "p", "root"}[some.Intn(7)]}
	for _, id := range []string{"i", "j", "i"} {
		if some.Intn(12) == 0 {
			x.Ids = append(x.Ids, id)
		}
	}
	for _, class := range []string{"c", "d", "e", "c"} {
		if some.Intn(10) == 0 {
			x.Classes = append(x.Classes, class)
		}
	}
	x.Link, x.Visited = some.Intn(10) == 0, some.Intn(8) == 0
	return x
}

func someSelector(some *rand.Rand) selector.Selector {
	x := selector.Selector{Parts: []selector.Simple{someSimple(some)}}
	for range some.Intn(5) * some.Intn(3) {
		x.Parts = append(x.Parts, someSimple(some))
		x.Close = append(x.Close, some.Intn(2) == 0)
	}
	if len(x.Parts) > 8 {
		x.Parts, x.Close = x.Parts[:8], x.Close[:7]
	}
	return x
}

func someSeen(some *rand.Rand) []string {
	var seen []string
	for _, to := range []string{"h", "", "k", "z"} {
		if some.Intn(2) == 0 {
			seen = append(seen, to)
		}
	}
	return seen
}

// hold holds a selector against the chapter's words, of all nodes; it tells how many it is for.
func hold(t *testing.T, l []api.Node, x selector.Selector, seen []string) int {
	t.Helper()
	var want []int
	for node := -1; node <= len(l); node++ {
		is := node >= 0 && node < len(l) && isByWords(l, node, x, seen)
		if is {
			want = append(want, node)
		}
		if got := match.Is(l, node, x, seen); got != is {
			t.Fatalf("Is(%d, %q, %q) = %v of %+v", node, selector.Print(x), seen, got, l)
		}
		first := x.Parts[0]
		if got := match.Simple(l, node, first, seen); got != simpleByWords(l, node, first, seen) {
			t.Fatalf("Simple(%d, %+v, %q) = %v of %+v", node, first, seen, got, l)
		}
	}
	if got := match.All(l, x, seen); !slices.Equal(got, want) {
		t.Fatalf("All(%q, %q) = %v, want %v of %+v", selector.Print(x), seen, got, want, l)
	}
	return len(want)
}

// P11.3

func TestManySelectors(t *testing.T) {
	some := rand.New(rand.NewSource(11))
	are, areOfParts := 0, 0
	for range 3000 {
		l, seen := someDocument(some), someSeen(some)
		for node := -1; node <= len(l); node++ {
			to, is := match.Link(l, node)
			want, wantIs := linkByWords(l, node)
			if to != want || is != wantIs || match.Visited(l, node, seen) != (is && slices.Contains(seen, to)) {
				t.Fatalf("Link(%d) = %q, %v of %+v", node, to, is, l)
			}
		}
		for range 20 {
			x := someSelector(some)
			n := hold(t, l, x, seen)
			are += n
			if len(x.Parts) > 2 {
				areOfParts += n
			}
			// With one part less ahead it is for as many nodes, or more.
			all := match.All(l, x, seen)
			for len(x.Parts) > 1 {
				x = selector.Selector{Parts: x.Parts[1:], Close: x.Close[1:]}
				more := match.All(l, x, seen)
				for _, node := range all {
					if !slices.Contains(more, node) {
						t.Fatalf("%q isn't for %d", selector.Print(x), node)
					}
				}
				all = more
			}
			for _, node := range all {
				if node == 0 || l[node].Tag == "" {
					t.Fatalf("%q is for %d of %+v", selector.Print(x), node, l)
				}
			}
		}
	}
	if are < 10000 || areOfParts < 1000 {
		t.Errorf("for no more than %d nodes, %d of those of parts", are, areOfParts)
	}
}

func TestOthersDontHangOnWhatWasVisited(t *testing.T) {
	some := rand.New(rand.NewSource(12))
	hang := 0
	for range 3000 {
		l, x := someDocument(some), someSelector(some)
		one, two := match.All(l, x, someSeen(some)), match.All(l, x, someSeen(some))
		if !slices.Equal(one, two) {
			hang++
		}
		for i := range x.Parts {
			x.Parts[i].Link, x.Parts[i].Visited = false, false
		}
		one, two = match.All(l, x, someSeen(some)), match.All(l, x, someSeen(some))
		if !slices.Equal(one, two) {
			t.Fatalf("%q hangs on it: %v, %v", selector.Print(x), one, two)
		}
	}
	if hang == 0 {
		t.Error("no selector hangs on it")
	}
}

func TestAskingChangesNothing(t *testing.T) {
	const text, s = `<div class="c d" id="i"><a href="h">x</a></div>`, "div#i.c.d > a:visited"
	l, x, seen := read(t, text), sel(t, s), []string{"k", "h"}
	for range 2 {
		checkAll(t, l, s, seen, 2)
		match.Visited(l, 2, seen)
		match.Simple(l, 1, x.Parts[0], seen)
		if got := match.All(l, x, seen); !slices.Equal(got, []int{2}) {
			t.Errorf("All = %v", got)
		}
		if selector.Print(x) != s || !slices.Equal(seen, []string{"k", "h"}) || !tree.May(l) || l[1].Attrs[0].Value != "c d" {
			t.Errorf("it is now %q, %q, %+v", selector.Print(x), seen, l)
		}
	}
	all := match.All(l, sel(t, "*"), nil)
	clear(all)
	if got := match.All(l, sel(t, "*"), nil); !slices.Equal(got, []int{1, 2}) {
		t.Errorf("All is now %v", got)
	}
}
