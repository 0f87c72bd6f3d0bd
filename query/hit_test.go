package query_test

import (
	"math"
	"testing"

	"scrim/api"
	"scrim/box"
	"scrim/layout"
	"scrim/measure"
	"scrim/query"
)

// P21.3

func (p page) hit(t *testing.T, x, y int64, want int) {
	t.Helper()
	if got := query.Hit(p.scene, p.result, x, y); got != want {
		t.Errorf("at %d, %d there is %d, want %d", x, y, got, want)
	}
}

// points holds who is at points, by pixels.
func (p page) points(t *testing.T, l ...[3]int64) {
	t.Helper()
	for _, c := range l {
		p.hit(t, 64*c[0], 64*c[1], int(c[2]))
	}
}

func TestHitNothing(t *testing.T) {
	page{}.points(t, [3]int64{0, 0, -1})
	page{scene: pageOf(t, "x", "").scene}.points(t, [3]int64{0, 0, -1})
	p := pageOf(t, "", "")
	p.points(t, [3]int64{0, 0, -1}, [3]int64{50, -1, -1})
	for _, n := range []int64{math.MinInt64, math.MaxInt64, api.MostFixed, -api.MostFixed} {
		p.hit(t, n, 0, -1)
		p.hit(t, 0, n, -1)
		p.hit(t, n, n, -1)
	}
}

// A place begins with its first point, and ends ahead of its far end.
func TestHitEachSide(t *testing.T) {
	// 0 root of 100 to 30 px, 1 p from 10 px, 5 px on, 20 to 10 px.
	p := pageOf(t, "<p></p>", "p {width: 20px; height: 10px; margin: 5px 0 15px 10px}")
	for _, c := range [][3]int64{
		{640, 320, 1}, {639, 320, 0}, {640, 319, 0}, {639, 319, 0},
		{1919, 320, 1}, {1920, 320, 0}, {1919, 319, 0},
		{640, 959, 1}, {640, 960, 0}, {639, 959, 0},
		{1919, 959, 1}, {1920, 959, 0}, {1919, 960, 0}, {1920, 960, 0},
		{0, 0, 0}, {-1, 0, -1}, {0, -1, -1}, {6399, 1919, 0}, {6400, 1919, -1}, {6399, 1920, -1},
	} {
		p.hit(t, c[0], c[1], int(c[2]))
	}
}

func TestHitFragments(t *testing.T) {
	// 0 root, 1 i, 2 "a b", 3 img, 4 p, 5 c
	p := pageOf(t, `<i>a b</i><img src="u"><p>c</p>`, "i {background-color: red}")
	// The text is hit, not what it stands in; nor is an Inline, where there is a gap.
	p.points(t, [3]int64{0, 0, 2}, [3]int64{7, 15, 2}, [3]int64{8, 0, 0}, [3]int64{15, 8, 0}, [3]int64{16, 0, 2}, [3]int64{23, 15, 2})
	// The image stands on the line's lower end.
	p.points(t, [3]int64{24, 10, 0}, [3]int64{24, 11, 3}, [3]int64{33, 15, 3}, [3]int64{34, 15, 0})
	p.points(t, [3]int64{0, 16, 5}, [3]int64{8, 16, 4}, [3]int64{99, 31, 4}, [3]int64{0, 32, -1})
}

// A fragment is ahead of every block, also of one behind it that stands on it; of two fragments, and of two blocks, the last one is hit.
func TestHitWhatStandsOnOneAnother(t *testing.T) {
	// 0 root, 1 p, 2 a, 3 p, 4 b
	p := pageOf(t, "<p>a</p><p>b</p>", "p {width: 40px} ")
	p.points(t, [3]int64{0, 0, 2}, [3]int64{0, 16, 4}, [3]int64{20, 0, 1}, [3]int64{20, 16, 3})
	// The second one is moved onto the first one: of letters side by side, and of a block beside.
	p = pageOf(t, `<p>a</p><p class="c">b</p>`, "p {width: 40px} .c {top: -16px; left: 4px}")
	p.points(t, [3]int64{0, 0, 2}, [3]int64{3, 0, 2}, [3]int64{4, 0, 4}, [3]int64{7, 0, 4}, [3]int64{11, 0, 4}, [3]int64{12, 0, 3}, [3]int64{20, 0, 3}, [3]int64{43, 0, 3}, [3]int64{44, 0, 0})
	// A block of no letters, moved onto letters: these are hit, for all that.
	p = pageOf(t, `<p>a</p><p class="c"></p>`, "p {width: 40px} .c {top: -16px; height: 16px}")
	p.points(t, [3]int64{0, 0, 2}, [3]int64{8, 0, 3})
	// The first one is moved onto the second one: who stands later is hit.
	p = pageOf(t, `<p class="c">a</p><p>b</p>`, ".c {top: 16px}")
	p.points(t, [3]int64{0, 16, 4}, [3]int64{50, 16, 3}, [3]int64{50, 0, 0})
	// What stands in a block is behind it in order.
	p = pageOf(t, "<f><p></p></f>", "f {height: 9px} p {width: 5px; height: 5px}")
	p.points(t, [3]int64{4, 4, 2}, [3]int64{5, 4, 1}, [3]int64{4, 5, 1})
}

// Orders of a flex change where kids stand, not who is last.
func TestHitGoesByTheOrderOfBoxes(t *testing.T) {
	p := pageOf(t, `<f><p class="c">a</p><p>b</p></f>`, "p {width: 8px} .c {order: 1; left: -8px}")
	// 0 root, 1 f, 2 p, 3 a, 4 p, 5 b: a is moved onto b.
	p.points(t, [3]int64{0, 0, 5}, [3]int64{8, 0, 1})
}

// Anon boxes, Inlines without letters, and texts of blanks are hit nowhere.
func TestHitNoAnon(t *testing.T) {
	// 0 root, 1 p, 2 x, 3 p: the Anon box is 16 px high, its Block 4.
	p := pageOf(t, "<p>x<p></p></p>", "p {height: 4px}")
	p.points(t, [3]int64{50, 2, 1}, [3]int64{50, 10, -1}, [3]int64{0, 10, 2}, [3]int64{50, 4, -1}, [3]int64{50, 17, 3})
	p = pageOf(t, "<i> </i><i>x</i>", "")
	p.points(t, [3]int64{0, 0, 4}, [3]int64{8, 0, 0})
}

// What is no place, or of no size, has no point.
func TestHitPlacesWithoutPoints(t *testing.T) {
	p := pageOf(t, `<p></p><img><img src="u">`, "img {height: 3px}")
	p.points(t, [3]int64{0, 0, 3}, [3]int64{50, 0, 0})
	boxes := []box.Box{{Kind: box.Block, Parent: -1, Kids: []int{1}}, {Node: 1, Kind: box.Text, Parent: 0}}
	s := measure.Scene{Boxes: boxes}
	wrong := page{scene: s, result: layout.Result{Rects: []api.Rect{r(0, 0, 9, 9), r(0, 0, 9, 9)}, Frags: []layout.Frag{{Box: 1, Rect: r(0, 0, -5, 5)}}}}
	wrong.points(t, [3]int64{0, 0, 0}, [3]int64{-1, 0, -1})
	// A Text or an Image box isn't hit by its place, but by its fragments.
	wrong.result.Rects[0] = api.Rect{}
	wrong.points(t, [3]int64{0, 0, -1})
}
