package query_test

import (
	"math"
	"math/rand"
	"slices"
	"strings"
	"testing"

	"scrim/api"
	"scrim/box"
	"scrim/cascade"
	"scrim/layout"
	"scrim/query"
	"scrim/rect"
	"scrim/res"
	"scrim/sheet"
	"scrim/tree"
	"scrim/value"
)

// boxOf tells a node's box, by the chapter's words; -1, if it has none.
func (p page) boxOf(node int) int {
	found := -1
	for at, b := range p.scene.Boxes {
		if b.Node == node && b.Kind != box.Anon {
			found = at
		}
	}
	return found
}

// inside tells a box, and all boxes in it.
func (p page) inside(at int) []int {
	l := []int{at}
	for _, kid := range p.scene.Boxes[at].Kids {
		l = append(l, p.inside(kid)...)
	}
	return l
}

// rectsByWords tells what Rects does.
func (p page) rectsByWords(node int) []api.Rect {
	at := p.boxOf(node)
	if at < 0 {
		return nil
	}
	if kind := p.scene.Boxes[at].Kind; kind == box.Block || kind == box.Flex {
		return []api.Rect{p.result.Rects[at]}
	}
	var l []api.Rect
	inside := p.inside(at)
	for _, f := range p.result.Frags {
		if slices.Contains(inside, f.Box) {
			l = append(l, f.Rect)
		}
	}
	return l
}

// hitByWords tells what Hit does.
func (p page) hitByWords(x, y int64) int {
	block, frag := -1, -1
	for at, b := range p.scene.Boxes {
		if (b.Kind == box.Block || b.Kind == box.Flex) && has(p.result.Rects[at], x, y) {
			block = b.Node
		}
	}
	for _, f := range p.result.Frags {
		if has(f.Rect, x, y) {
			frag = p.scene.Boxes[f.Box].Node
		}
	}
	if frag >= 0 {
		return frag
	}
	return block
}

func has(r api.Rect, x, y int64) bool { return x >= r.X && y >= r.Y && x-r.X < r.W && y-r.Y < r.H }

// someDoc is a document of words, images and elements of each sort.
func someDoc(some *rand.Rand) []api.Node {
	parts := []string{"<p>", "<p>", "<p>", "</p>", "</p>", "<f>", "</f>", "<n>", "</n>", "<i>", "<i>", "</i>", "a", "bb c", "d", " ", `<img src="u">`, `<img src="v">`, "<img>"}
	for {
		var s strings.Builder
		for range some.Intn(35) {
			s.WriteString(parts[some.Intn(len(parts))])
		}
		if l, e := tree.Read(s.String()); e == api.OK {
			return l
		}
	}
}

// someRules move boxes onto one another.
func someRules(t *testing.T, some *rand.Rand) []sheet.Rule {
	t.Helper()
	heads := []string{"p", "i", "f", "img", "*", "p p", "p > i", "f p"}
	bodies := []string{"top: -9px", "left: 5px", "width: 20px", "height: 9px", "margin: -4px", "padding: 2px 0", "border-width: 1px", "order: -1", "width: 50%", "font-size: 9.5px", "flex-grow: 1", "display: inline"}
	css := sorts
	for range some.Intn(8) {
		css += heads[some.Intn(len(heads))] + "{" + bodies[some.Intn(len(bodies))] + "}"
	}
	rules, e := sheet.Read(css)
	if e != api.OK {
		t.Fatalf("%q: %d", css, e)
	}
	return rules
}

// somePoint is often on an edge of something.
func (p page) somePoint(some *rand.Rand) (int64, int64) {
	places := slices.Clone(p.result.Rects)
	for _, f := range p.result.Frags {
		places = append(places, f.Rect)
	}
	x, y := places[some.Intn(len(places))], places[some.Intn(len(places))]
	if some.Intn(2) == 0 {
		y = x
	}
	near := func(from, size int64) int64 {
		return from + []int64{-1, 0, size / 2, size - 1, size}[some.Intn(5)]
	}
	return near(x.X, x.W), near(y.Y, y.H)
}

// P21.2, P21.3

func TestManyPages(t *testing.T) {
	some := rand.New(rand.NewSource(40))
	hits := map[bool]int{}
	for range 2500 {
		p := laid(t, someDoc(some), someRules(t, some), table())
		for node := -1; node <= len(p.scene.Doc); node++ {
			want, at := api.Rect{}, p.boxOf(node)
			if at >= 0 {
				want = p.result.Rects[at]
			}
			if got, is := query.Place(p.scene, p.result, node); got != want || is != (at >= 0) {
				t.Fatalf("the place of %d of %+v is %v, %v, want %v", node, p, got, is, want)
			}
			if got := query.Rects(p.scene, p.result, node); !slices.Equal(got, p.rectsByWords(node)) {
				t.Fatalf("the places of %d of %+v are %v, want %v", node, p, got, p.rectsByWords(node))
			}
		}
		for range 40 {
			x, y := p.somePoint(some)
			got, want := query.Hit(p.scene, p.result, x, y), p.hitByWords(x, y)
			if got != want {
				t.Fatalf("at %d, %d of %+v there is %d, want %d", x, y, p, got, want)
			}
			hits[got >= 0 && p.scene.Doc[got].Tag == ""]++
		}
	}
	if hits[true] < 5000 || hits[false] < 20000 {
		t.Errorf("hits %v", hits)
	}
}

// P21.4

// What a place is is told by its rects.
func TestPlaceIsTheUnionOfItsRects(t *testing.T) {
	some := rand.New(rand.NewSource(41))
	several := 0
	for range 1500 {
		p := laid(t, someDoc(some), someRules(t, some), table())
		for node := range p.scene.Doc {
			l := query.Rects(p.scene, p.result, node)
			if len(l) > 1 {
				several++
			}
			want, _ := rect.Union(l...)
			if got, is := query.Place(p.scene, p.result, node); got != want || !is && len(l) > 0 {
				t.Fatalf("the place of %d of %+v is %v, its rects are %v", node, p, got, l)
			}
		}
	}
	if several < 1000 {
		t.Errorf("no more than %d have several rects", several)
	}
}

// Who is hit has the point.
func TestWhoIsHitHasThePoint(t *testing.T) {
	some := rand.New(rand.NewSource(42))
	for range 1500 {
		p := laid(t, someDoc(some), someRules(t, some), table())
		for range 30 {
			x, y := p.somePoint(some)
			node := query.Hit(p.scene, p.result, x, y)
			l := query.Rects(p.scene, p.result, node)
			if node >= 0 && !slices.ContainsFunc(l, func(r api.Rect) bool { return rect.Has(r, x, y) }) {
				t.Fatalf("%d of %+v is hit at %d, %d, its rects are %v", node, p, x, y, l)
			}
		}
	}
}

// told is all that is told of a page.
func told(p page) []any {
	var l []any
	for node := range p.scene.Doc {
		for prop := range value.Many {
			text, e := query.Computed(p.scene.Styles, node, value.Name(prop))
			l = append(l, text, e)
		}
		place, is := query.Place(p.scene, p.result, node)
		l = append(l, place, is, query.Offset(place))
		for _, r := range query.Rects(p.scene, p.result, node) {
			l = append(l, r)
		}
	}
	for x := int64(-100); x < 6600; x += 331 {
		for y := int64(-100); y < 3000; y += 307 {
			l = append(l, query.Hit(p.scene, p.result, x, y))
		}
	}
	return l
}

// Nothing that is told hangs on what is secret of the table, nor on what was visited.
func TestNothingSecretIsTold(t *testing.T) {
	some := rand.New(rand.NewSource(43))
	for range 200 {
		l := someDoc(some)
		rules, _ := sheet.Read(sorts + `i:visited {width: 5px; color: red; display: block} a:visited {display: none}`)
		one := table()
		one.Images[0].Open, one.Font.Open = some.Intn(2) == 0, some.Intn(2) == 0
		two := res.Table{Images: slices.Clone(one.Images), Font: one.Font}
		two.Images[1].W, two.Images[1].H = int64(some.Intn(1<<20)), int64(some.Intn(1<<20))
		if !two.Images[0].Open {
			two.Images[0].W, two.Images[0].H = int64(some.Intn(1<<20)), int64(some.Intn(1<<20))
		}
		if !two.Font.Open {
			two.Font.Advance = int64(some.Intn(1025))
		}
		if a, b := told(laid(t, l, rules, one)), told(laid(t, l, rules, two)); !slices.Equal(a, b) {
			t.Fatalf("by other secrets of %+v: %v, was %v", l, b, a)
		}
	}
}

// R3, R4: an answer shares nothing with what is handed in, which stays; the same calls answer the same.
func TestAnswersShareNothing(t *testing.T) {
	some := rand.New(rand.NewSource(44))
	for range 200 {
		l, rules := someDoc(some), someRules(t, some)
		p, kept := laid(t, l, rules, table()), laid(t, tree.Copy(l), rules, table())
		want := told(p)
		for node := range l {
			rects := query.Rects(p.scene, p.result, node)
			clear(rects)
			_ = append(rects, api.Rect{X: 1})
		}
		if !slices.Equal(told(p), want) || !slices.Equal(told(kept), want) {
			t.Fatalf("%+v is now told otherwise", l)
		}
		if !slices.Equal(p.result.Rects, kept.result.Rects) || !slices.Equal(p.result.Frags, kept.result.Frags) || !slices.Equal(p.scene.Styles, kept.scene.Styles) {
			t.Fatalf("%+v is now %+v", kept, p)
		}
	}
}

// someNumber tells a number that may stand where a place in a list does.
func someNumber(some *rand.Rand, n int) int {
	return []int{-1, n, n + 1, math.MinInt, math.MaxInt, some.Intn(n + 1), some.Intn(n + 1)}[some.Intn(7)]
}

// wrong makes a page one whose parts don't belong together: boxes stand in themselves, places are none.
func wrong(some *rand.Rand, p *page) {
	at := some.Intn(len(p.scene.Boxes))
	switch some.Intn(8) {
	case 0:
		p.scene.Boxes[at].Node = someNumber(some, len(p.scene.Doc))
	case 1:
		p.scene.Boxes[at].Kind = some.Intn(9) - 1
	case 2, 3:
		p.scene.Boxes[at].Parent = someNumber(some, len(p.scene.Boxes))
	case 4:
		p.scene.Boxes = p.scene.Boxes[:at+1]
	case 5:
		p.result.Rects = p.result.Rects[:some.Intn(len(p.result.Rects)+1)]
	case 6:
		p.result.Frags = append(p.result.Frags, layout.Frag{Box: someNumber(some, len(p.scene.Boxes)), Rect: r(0, 0, 9, 9)})
	case 7:
		p.result.Rects = append(p.result.Rects, api.Rect{X: math.MaxInt64, Y: math.MinInt64, W: math.MaxInt64, H: -1})
	}
}

// R1: every call ends, and none panics.
func TestWrongPagesEnd(t *testing.T) {
	some := rand.New(rand.NewSource(45))
	for range 4000 {
		p := laid(t, someDoc(some), someRules(t, some), table())
		for range 1 + some.Intn(4) {
			wrong(some, &p)
		}
		styles := p.scene.Styles[:some.Intn(len(p.scene.Styles)+1)]
		for node := -2; node <= len(p.scene.Doc)+1; node++ {
			query.Computed(styles, node, "width")
			place, is := query.Place(p.scene, p.result, node)
			query.Offset(place)
			if l := query.Rects(p.scene, p.result, node); !is && (place != (api.Rect{}) || len(l) > 0) {
				t.Fatalf("%d of %+v has no place, and %v, %v", node, p, place, l)
			}
		}
		for range 10 {
			query.Hit(p.scene, p.result, int64(some.Intn(8000)-500), int64(some.Intn(4000)-500))
		}
	}
}

// A style that isn't as long as the document has no more nodes than it has.
func TestComputedGoesByStyles(t *testing.T) {
	styles := make([]cascade.Style, 2)
	holdComputed(t, styles, 1, "width", "", api.OK)
	holdComputed(t, styles, 2, "width", "", api.ErrName)
}
