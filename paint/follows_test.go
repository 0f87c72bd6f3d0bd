package paint_test

import (
	"math"
	"math/rand"
	"slices"
	"strings"
	"testing"

	"scrim/api"
	"scrim/box"
	"scrim/cascade"
	"scrim/layout"
	"scrim/paint"
	"scrim/res"
	"scrim/sheet"
	"scrim/tree"
	"scrim/value"
)

// itemsByWords asks the chapter's words: fills of boxes, and then what is painted of fragments.
func itemsByWords(p page) []paint.Item {
	var l []paint.Item
	for at, b := range p.scene.Boxes {
		if b.Kind == box.Block || b.Kind == box.Flex || b.Kind == box.Inline {
			l = append(l, paint.Item{Kind: 1, Rect: p.result.Rects[at], Color: p.painted[b.Node][value.Background].N})
		}
	}
	for _, f := range p.result.Frags {
		b := p.scene.Boxes[f.Box]
		if b.Kind == box.Text {
			l = append(l, paint.Item{Kind: 2, Rect: f.Rect, Color: p.painted[b.Node][value.Color].N, Text: f.Text, Wide: p.scene.Table.Font.Advance})
			continue
		}
		x := paint.Item{Kind: 3, Rect: f.Rect}
		for _, a := range p.scene.Doc[b.Node].Attrs {
			if a.Name == "src" {
				x.Text = a.Value
			}
		}
		for _, image := range p.scene.Table.Images {
			if image.Src == x.Text {
				x.Wide, x.High = image.W, image.H
			}
		}
		l = append(l, x)
	}
	return l
}

// someDoc is a document of links, words, images and elements of each sort.
func someDoc(some *rand.Rand) []api.Node {
	parts := []string{`<a href="h">`, `<a href="k">`, "</a>", "<p>", "<p>", "</p>", "<f>", "</f>", "<n>", "</n>", "<i>", "</i>", "a", "bb c", " ", `<img src="u">`, `<img src="v">`, `<img src="w">`, "<img>"}
	for {
		var s strings.Builder
		for range some.Intn(30) {
			s.WriteString(parts[some.Intn(len(parts))])
		}
		if l, e := tree.Read(s.String()); e == api.OK {
			return l
		}
	}
}

// someRules are of colors, mostly, and of what else would be told by places.
func someRules(t *testing.T, some *rand.Rand) []sheet.Rule {
	t.Helper()
	heads := []string{"a", "p", "i", "f", "a:visited", "a:visited", "a:visited i", ":link", ":visited > p", "img", "*"}
	bodies := []string{"color: red", "color: blue", "color: green", "background-color: red", "background-color: blue", "background-color: #102030", "display: block", "display: none", "width: 20px", "font-size: 9.5px", "order: -1", "left: 3px", "color: white !important"}
	css := sorts
	for range some.Intn(12) {
		css += heads[some.Intn(len(heads))] + "{" + bodies[some.Intn(len(bodies))] + "}"
	}
	rules, e := sheet.Read(css)
	if e != api.OK {
		t.Fatalf("%q: %d", css, e)
	}
	return rules
}

func someTable(some *rand.Rand) res.Table {
	size := func() int64 { return int64(some.Intn(3000)) }
	isOpen := func() bool { return some.Intn(2) == 0 }
	return res.Table{Images: []res.Image{{Src: "u", W: size(), H: size(), Open: isOpen()}, {Src: "v", W: size(), H: size(), Open: isOpen()}}, Font: res.Font{Advance: int64(some.Intn(1025)), Open: isOpen()}}
}

// otherSecrets tells a table that is alike.
func otherSecrets(t *testing.T, some *rand.Rand, table res.Table) res.Table {
	t.Helper()
	other := res.Table{Images: slices.Clone(table.Images), Font: table.Font}
	for i, x := range other.Images {
		if !x.Open {
			other.Images[i].W, other.Images[i].H = int64(some.Intn(1<<20)), int64(some.Intn(1<<20))
		}
	}
	if !other.Font.Open {
		other.Font.Advance = int64(some.Intn(1025))
	}
	if !res.Alike(table, other) {
		t.Fatalf("%v, %v aren't alike", table, other)
	}
	return other
}

func someSeen(some *rand.Rand) []string {
	return [][]string{nil, {"h"}, {"k"}, {"k", "h"}, {"u", ""}}[some.Intn(5)]
}

// P20.1

func TestManyPages(t *testing.T) {
	some := rand.New(rand.NewSource(30))
	kinds := map[int]int{}
	for range 3000 {
		p := laid(t, someDoc(some), someRules(t, some), someTable(some), someSeen(some))
		got, want := p.items(), itemsByWords(p)
		if !slices.Equal(got, want) {
			t.Fatalf("items of %+v are\n%+v, want\n%+v", p, got, want)
		}
		for i, x := range paint.Open(got) {
			kinds[x.Kind]++
			if x != (paint.Item{Kind: want[i].Kind, Rect: want[i].Rect, Text: want[i].Text}) {
				t.Fatalf("open of %+v is %+v", want[i], x)
			}
		}
		if len(paint.Open(got)) != len(want) {
			t.Fatalf("of %d items %d are open", len(want), len(paint.Open(got)))
		}
	}
	if kinds[paint.Fill] < 5000 || kinds[paint.Text] < 3000 || kinds[paint.Picture] < 2000 {
		t.Errorf("kinds %v", kinds)
	}
}

// P20.2

func TestOtherSecrets(t *testing.T) {
	some := rand.New(rand.NewSource(31))
	differ := 0
	for range 3000 {
		l, rules, table := someDoc(some), someRules(t, some), someTable(some)
		seen, otherSeen := someSeen(some), someSeen(some)
		one := laid(t, l, rules, table, seen).items()
		two := laid(t, l, rules, otherSecrets(t, some, table), otherSeen)
		other := two.items()
		if !slices.Equal(paint.Open(one), paint.Open(other)) {
			t.Fatalf("by other secrets %+v is painted as\n%+v, was\n%+v", l, other, one)
		}
		if !slices.Equal(one, other) {
			differ++
		}
		// Each color is that of the painted style.
		styles := cascade.Paint(l, rules, otherSeen)
		for i, at := range filled(two) {
			if want := styles[two.scene.Boxes[at].Node][value.Background].N; other[i].Color != want {
				t.Fatalf("box %d of %+v is filled by %x, want %x", at, l, other[i].Color, want)
			}
		}
	}
	if differ < 1000 {
		t.Errorf("no more than %d differ", differ)
	}
}

// filled tells the boxes of which the first items are.
func filled(p page) []int {
	var l []int
	for at, b := range p.scene.Boxes {
		if slices.Contains([]int{box.Block, box.Flex, box.Inline}, b.Kind) {
			l = append(l, at)
		}
	}
	return l
}

// R3, R4: an answer shares nothing with what is handed in, which stays; the same calls answer the same.
func TestItemsShareNothing(t *testing.T) {
	some := rand.New(rand.NewSource(32))
	for range 300 {
		l, rules, table, seen := someDoc(some), someRules(t, some), someTable(some), someSeen(some)
		p, kept := laid(t, l, rules, table, seen), laid(t, tree.Copy(l), rules, table, seen)
		one := p.items()
		two := p.items()
		open := paint.Open(one)
		if !slices.Equal(one, two) {
			t.Fatalf("%+v, then %+v", one, two)
		}
		clear(open)
		clear(two)
		if !slices.Equal(p.items(), one) || !slices.Equal(p.painted, kept.painted) || !slices.Equal(p.result.Rects, kept.result.Rects) || !slices.Equal(p.result.Frags, kept.result.Frags) {
			t.Fatalf("%+v is now %+v", kept, p)
		}
		if !slices.Equal(kept.items(), one) {
			t.Fatalf("of the same: %+v, was %+v", kept.items(), one)
		}
	}
}

// someNumber tells a number that may stand where a place in a list does.
func someNumber(some *rand.Rand, n int) int {
	return []int{-1, n, n + 1, math.MinInt, math.MaxInt, some.Intn(max(n, 1)), some.Intn(max(n, 1))}[some.Intn(7)]
}

// wrong makes a page one whose parts don't belong together.
func wrong(some *rand.Rand, p *page) {
	at := some.Intn(len(p.scene.Boxes))
	switch some.Intn(7) {
	case 0:
		p.scene.Boxes[at].Node = someNumber(some, len(p.scene.Doc))
	case 1:
		p.scene.Boxes[at].Kind = some.Intn(9) - 1
	case 2:
		p.scene.Boxes = p.scene.Boxes[:at+1]
	case 3:
		p.painted = p.painted[:some.Intn(len(p.painted)+1)]
	case 4:
		p.result.Rects = p.result.Rects[:some.Intn(len(p.result.Rects)+1)]
	case 5:
		p.result.Frags = append(p.result.Frags, layout.Frag{Box: someNumber(some, len(p.scene.Boxes)), Text: "x"})
	case 6:
		p.scene.Doc = p.scene.Doc[:some.Intn(len(p.scene.Doc)+1)]
	}
}

// R1: every call ends, and none panics. Nothing is painted that isn't there.
func TestWrongPagesEnd(t *testing.T) {
	some := rand.New(rand.NewSource(33))
	for range 5000 {
		p := laid(t, someDoc(some), someRules(t, some), someTable(some), someSeen(some))
		for range 1 + some.Intn(4) {
			wrong(some, &p)
		}
		l := p.items()
		if len(paint.Open(l)) != len(l) || len(l) > len(p.scene.Boxes)+len(p.result.Frags) {
			t.Fatalf("%+v: %+v", p, l)
		}
		for _, x := range l {
			if x.Kind < paint.Fill || x.Kind > paint.Picture {
				t.Fatalf("%+v: %+v", p, x)
			}
		}
	}
}
