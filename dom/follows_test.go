package dom_test

import (
	"math/rand"
	"slices"
	"strings"
	"testing"

	"scrim/api"
	"scrim/dom"
	"scrim/token"
	"scrim/tree"
)

// P6.3

// someText is a text of a document, often with blanks and signs in it.
func someText(some *rand.Rand, most int) string {
	parts := []string{"<p>", "<b x=\"1\">", "<i a=\"&quot;\" b>", "<img>", "<img src=\"u\">", "</p>", "x", "y z", "&lt;", "&", "<"}
	// Few close, or more.
	parts = append(parts, []string{"</p>", "</b>", "</i>"}[:some.Intn(4)]...)
	var s strings.Builder
	if some.Intn(4) == 0 {
		s.WriteString(strings.Repeat("<p>", api.MostDepth))
		most = 4
	}
	for range some.Intn(most) {
		s.WriteString(parts[some.Intn(len(parts))])
	}
	return s.String()
}

// someAct is any act, of numbers in a document and beside them.
func someAct(some *rand.Rand, l []api.Node) act {
	node := some.Intn(len(l)+2) - 1
	at := some.Intn(5)
	name := []string{"p", "img", "x", "id", "P", "", "root"}[some.Intn(7)]
	value := []string{"", "x", " ", "<p>", "&lt;\"", strings.Repeat("y", 3000), strings.Repeat("&", 300)}[some.Intn(7)]
	return []act{element(node, at, name), text(node, at, value), remove(node), set(node, name, value), setText(node, value)}[some.Intn(5)]
}

func TestWhatComesOfItMayBe(t *testing.T) {
	some := rand.New(rand.NewSource(6))
	ends := map[api.Errno]int{}
	for range 2000 {
		l, e := tree.Read(someText(some, 60))
		if e != api.OK {
			continue
		}
		for range 12 {
			kept := tree.Copy(l)
			next, e := someAct(some, l)(l)
			ends[e]++
			if !same(l, kept) {
				t.Fatalf("%q is now %q", dom.Print(kept), dom.Print(l))
			}
			if e != api.OK {
				if len(next) != 0 {
					t.Fatalf("beside %d there is %q", e, dom.Print(next))
				}
				continue
			}
			again, e := tree.Read(dom.Print(next))
			if !tree.May(next) || !same(again, next) || e != api.OK {
				t.Fatalf("%q is read as %q, %d", dom.Print(next), dom.Print(again), e)
			}
			l = next
		}
	}
	for _, e := range []api.Errno{api.OK, api.ErrArg, api.ErrFull, api.ErrName, api.ErrDepth} {
		if ends[e] == 0 {
			t.Errorf("no act ends with %d", e)
		}
	}
}

// textOf tells what a node's text is, by the chapter's words.
func textOf(l []api.Node, node int) string {
	n := l[node]
	if n.Tag == "" {
		return token.Sign(n.Text, false)
	}
	s := "<" + n.Tag
	for _, a := range n.Attrs {
		s += " " + a.Name + `="` + token.Sign(a.Value, true) + `"`
	}
	if s += ">"; n.Tag == "img" {
		return s
	}
	for _, k := range n.Kids {
		s += textOf(l, k)
	}
	return s + "</" + n.Tag + ">"
}

// cutTexts tells the text of all that stands ahead of a place among a node's kids, and of all from there on.
func cutTexts(l []api.Node, parent, at int) (string, string) {
	ahead, behind := "", ""
	for i, k := range l[parent].Kids {
		if i < at {
			ahead += textOf(l, k)
		} else {
			behind += textOf(l, k)
		}
	}
	for node := parent; node > 0; node = l[node].Parent {
		kids := l[l[node].Parent].Kids
		whole := textOf(l, node)
		begin := whole[:strings.Index(whole, ">")+1]
		i := slices.Index(kids, node)
		aheadOf, behindOf := "", ""
		for _, k := range kids[:i] {
			aheadOf += textOf(l, k)
		}
		for _, k := range kids[i+1:] {
			behindOf += textOf(l, k)
		}
		ahead, behind = aheadOf+begin+ahead, behind+"</"+l[node].Tag+">"+behindOf
	}
	return ahead, behind
}

// agree holds that an act's document is the one that a text is read as.
func agree(t *testing.T, l []api.Node, e api.Errno, s, what string) {
	t.Helper()
	want, wantErrno := tree.Read(s)
	if !same(l, want) || e != wantErrno {
		t.Fatalf("%s: %q, %d, want %q, %d", what, dom.Print(l), e, s, wantErrno)
	}
}

// What is changed is what its text would be read as, if that were changed.
func TestChangesAreThoseOfTheText(t *testing.T) {
	some := rand.New(rand.NewSource(7))
	for range 200 {
		l, e := tree.Read(someText(some, 30))
		if e != api.OK {
			continue
		}
		printed := dom.Print(l)
		for node, n := range l {
			if node > 0 {
				at := slices.Index(l[n.Parent].Kids, node)
				ahead, _ := cutTexts(l, n.Parent, at)
				_, behind := cutTexts(l, n.Parent, at+1)
				got, e := dom.Remove(l, node)
				agree(t, got, e, ahead+behind, "Remove from "+printed)
				if n.Tag != "img" {
					put := "x&lt;y"
					if begin, is := strings.CutSuffix(textOf(l, node), "</"+n.Tag+">"); is && n.Tag != "" {
						put = begin[:strings.Index(begin, ">")+1] + put + "</" + n.Tag + ">"
					}
					got, e := dom.SetText(l, node, "x<y")
					agree(t, got, e, ahead+put+behind, "SetText in "+printed)
				}
			}
			if n.Tag == "" || n.Tag == "img" {
				continue
			}
			for at := range len(n.Kids) + 1 {
				ahead, behind := cutTexts(l, node, at)
				got, e := dom.Element(l, node, at, "u")
				agree(t, got, e, ahead+"<u></u>"+behind, "Element in "+printed)
				got, e = dom.Text(l, node, at, `"&"`)
				agree(t, got, e, ahead+`"&amp;"`+behind, "Text in "+printed)
			}
		}
	}
}

func TestPutInAndRemovedItIsWhatItWas(t *testing.T) {
	some := rand.New(rand.NewSource(8))
	for range 150 {
		l, e := tree.Read(someText(some, 40))
		if e != api.OK {
			continue
		}
		for parent, n := range l {
			for at := range len(n.Kids) + 1 {
				with, e := dom.Element(l, parent, at, "u")
				if e != api.OK {
					continue
				}
				put := with[parent].Kids[at]
				if got, e := dom.Remove(with, put); !same(got, l) || e != api.OK {
					t.Fatalf("%q, with and without: %q, %d", dom.Print(l), dom.Print(got), e)
				}
				// An attribute, and texts, of what is put in are gone with it.
				with, _ = dom.Set(with, put, "x", "1")
				if v, is := dom.Get(with, put, "x"); v != "1" || !is {
					t.Fatalf("%q: %q, %v", dom.Print(with), v, is)
				}
				if more, e := dom.SetText(with, put, "x"); e == api.OK {
					with = more
				}
				if got, e := dom.Remove(with, put); !same(got, l) || e != api.OK {
					t.Fatalf("%q, with and without: %q, %d", dom.Print(l), dom.Print(got), e)
				}
			}
		}
	}
}

// spoil changes all of a document.
func spoil(l []api.Node) {
	for i := range l {
		for k := range l[i].Attrs {
			l[i].Attrs[k] = api.Attr{Name: "spoilt"}
		}
		for k := range l[i].Kids {
			l[i].Kids[k] = -9
		}
		l[i].Attrs = append(l[i].Attrs, api.Attr{Name: "more"})
		l[i].Kids = append(l[i].Kids, 99)
		l[i].Parent, l[i].Tag, l[i].Text = -9, "spoilt", "spoilt"
	}
}

func TestAnswersShareNothing(t *testing.T) {
	const s = `a<b id="i" x="1">c<i y="2">d</i></b>e<img src="u">` // root 0, a 1, b 2, c 3, i 4, d 5, e 6, img 7
	for i, do := range []act{
		element(0, 0, "p"), element(4, 1, "p"), text(0, 0, "x"), text(0, 1, ""), text(4, 0, "x"),
		remove(1), remove(3), remove(5), set(2, "id", "j"), set(2, "new", ""), set(7, "src", ""), setText(1, "x"), setText(4, "x"), setText(1, ""),
	} {
		l := read(t, s)
		one, e := do(l)
		if e != api.OK {
			t.Fatalf("case %d: %d", i, e)
		}
		kept := tree.Copy(one)
		spoil(l)
		if !same(one, kept) {
			t.Errorf("case %d: the answer is now %+v", i, one)
		}
		l = read(t, s)
		one, _ = do(l)
		spoil(one)
		if !same(l, read(t, s)) {
			t.Errorf("case %d: the document is now %+v", i, l)
		}
		if again, _ := do(l); !same(again, kept) {
			t.Errorf("case %d: done again: %+v", i, again)
		}
	}
}
