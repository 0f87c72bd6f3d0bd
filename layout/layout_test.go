package layout_test

import (
	"math"
	"slices"
	"testing"

	"scrim/api"
	"scrim/box"
	"scrim/cascade"
	"scrim/layout"
	"scrim/measure"
	"scrim/res"
	"scrim/sheet"
	"scrim/tree"
	"scrim/value"
)

const top = api.MostFixed

// table is one of an image of 10 to 5 px, and of one that isn't Open. Letters are half as wide as high.
func table() res.Table {
	return res.Table{Images: []res.Image{{Src: "u", W: 640, H: 320, Open: true}, {Src: "v", W: 7, H: 9}}, Font: res.Font{Advance: 64}}
}

// scene tells the scene of two texts.
func scene(t *testing.T, html, css string) measure.Scene {
	t.Helper()
	l, e := tree.Read(html)
	rules, f := sheet.Read(css)
	if e != api.OK || f != api.OK {
		t.Fatalf("%q, %q: %d, %d", html, css, e, f)
	}
	return sceneOf(t, l, cascade.Public(l, rules))
}

func sceneOf(t *testing.T, l []api.Node, styles []cascade.Style) measure.Scene {
	t.Helper()
	boxes, e := box.Build(l, styles)
	if e != api.OK {
		t.Fatalf("%+v: %d", l, e)
	}
	return measure.Scene{Doc: l, Boxes: boxes, Styles: styles, Table: table()}
}

// r is a place, by pixels.
func r(x, y, w, h int64) api.Rect { return api.Rect{X: 64 * x, Y: 64 * y, W: 64 * w, H: 64 * h} }

// sorts are rules for tags of each sort.
const sorts = "b, p {display: block} f, g {display: flex} g {flex-direction: column} n {display: none} "

// check holds the places of a page's boxes, behind that of the root, as wide as the room and so high; all by pixels.
func check(t *testing.T, html, css string, room, high int64, want ...api.Rect) {
	t.Helper()
	want = append([]api.Rect{r(0, 0, room, high)}, want...)
	s := scene(t, html, sorts+css)
	if got, e := layout.Lay(s, 64*room); e != api.OK || !slices.Equal(got.Rects, want) {
		t.Errorf("%q, %q in %d: %v, %d, want\n%v", html, css, room, got.Rects, e, want)
	}
}

// P19.1: Style

func TestStyle(t *testing.T) {
	const css = "b {width: 9px; margin: 1px; padding: 2px; border-width: 3px; height: 4px; left: 5px; top: 6px; order: 7; flex-grow: 8; flex-shrink: 9; background-color: red; color: blue; font-size: 10px; text-align: right; justify-content: end; flex-direction: column}"
	s := scene(t, "<b>x<i>y</i><img><p></p></b><f>z</f>", sorts+css)
	// 0 root, 1 b, 2 anon of b, 3 x, 4 i, 5 y, 6 img, 7 p, 8 f, 9 anon of f, 10 z
	for at, node := range map[int]int{0: 0, 1: 1, 3: 2, 4: 3, 5: 4, 6: 5, 7: 6, 8: 7, 10: 8} {
		if got := layout.Style(s, at); got != s.Styles[node] {
			t.Errorf("the style of %d is %v, want %v", at, got, s.Styles[node])
		}
	}
	for at, node := range map[int]int{2: 1, 9: 7} {
		got := layout.Style(s, at)
		for prop := range value.Many {
			want := value.First(prop)
			if prop == value.Color || prop == value.FontSize || prop == value.TextAlign {
				want = s.Styles[node][prop]
			}
			if got[prop] != want {
				t.Errorf("property %d of %d is %v, want %v", prop, at, got[prop], want)
			}
		}
	}
	if got := layout.Style(s, 2); got[value.Color].N != 255 || got[value.FontSize].N != 640 || got[value.TextAlign].N != value.AtRight {
		t.Errorf("what is passed on is %v", got)
	}
	for _, at := range []int{-1, -2, 11, 12, math.MinInt, math.MaxInt} {
		if got := layout.Style(s, at); got != (cascade.Style{}) {
			t.Errorf("the style of %d is %v", at, got)
		}
	}
	if got := layout.Style(measure.Scene{}, 0); got != (cascade.Style{}) {
		t.Errorf("the style of no box is %v", got)
	}
}

// P19.1: Wish

// wishes holds the wishes of all boxes, by pixels.
func wishes(t *testing.T, html, css string, want ...int64) {
	t.Helper()
	s := scene(t, html, sorts+css)
	var got []int64
	for at := range s.Boxes {
		n, is := layout.Wish(s, at)
		if !is {
			t.Errorf("%q, %q: the wish of %d isn't exact", html, css, at)
		}
		got = append(got, n)
	}
	for at := range want {
		want[at] *= 64
	}
	if !slices.Equal(got, want) {
		t.Errorf("%q, %q: wishes %v, want %v", html, css, got, want)
	}
}

func TestWishOfLines(t *testing.T) {
	wishes(t, "", "", 0)
	wishes(t, "ab c", "", 32, 0)
	wishes(t, " ", "", 0, 0)
	wishes(t, "ab <i>c</i>d<img src=\"u\">", "", 50, 0, 0, 0, 0, 0)
	wishes(t, "<img src=\"v\">", "", 16, 0)
	wishes(t, "<img><img src=\"w\">", "", 0, 0, 0)
	// What a box has about it, and its own width, count for nothing.
	wishes(t, "<p>ab</p>", "p {padding: 1px; margin: 1px; border-width: 1px; width: 99px}", 105, 16, 0)
}

func TestWishOfBlocks(t *testing.T) {
	// The greatest one of kids' outer wishes, 0 at least.
	wishes(t, "<p></p>", "", 0, 0)
	wishes(t, "<p>ab</p><b>c</b>", "", 16, 16, 0, 8, 0)
	wishes(t, "<p>ab</p><b>c</b>", "b {margin: 9px 1px 9px 2px; border-width: 9px 3px 9px 4px; padding: 9px 5px 9px 6px}", 29, 16, 0, 8, 0)
	wishes(t, "<p>ab</p>", "p {margin: 0 -1px}", 14, 16, 0)
	wishes(t, "<p>ab</p>", "p {margin: 0 -10px}", 0, 16, 0)
	wishes(t, "<p>ab</p><b></b>", "p {margin: 0 -10px} b {margin-left: -1px}", 0, 16, 0, 0)
	wishes(t, "<p>ab</p>", "p {margin: auto}", 16, 16, 0)
	// A Length is asked, where it is; a percentage isn't.
	wishes(t, "<p>ab</p>", "p {width: 3px}", 3, 16, 0)
	wishes(t, "<p>ab</p>", "p {width: 0}", 0, 16, 0)
	wishes(t, "<p>ab</p>", "p {width: 50%}", 16, 16, 0)
	wishes(t, "<p>ab</p>", "p {width: 3px; padding: 1px}", 5, 16, 0)
	wishes(t, "<p><b>ab</b></p>", "b {width: 3px; margin-left: 4px} p {padding-left: 1px}", 8, 7, 16, 0)
	// Anon ones have nothing about them.
	wishes(t, "<p>abc<b>x</b></p>", "p {padding: 1px; width: 50%} b {margin: 1px}", 26, 24, 24, 0, 8, 0)
	wishes(t, "<n>abcdef</n>x", "", 8, 0)
}

func TestWishOfFlexes(t *testing.T) {
	// By rows all together, less than 0, too; by columns the greatest.
	wishes(t, "<f><b>ab</b><b>c</b></f>", "", 24, 24, 16, 0, 8, 0)
	wishes(t, "<g><b>ab</b><b>c</b></g>", "", 16, 16, 16, 0, 8, 0)
	wishes(t, "<f></f><g></g>", "", 0, 0, 0)
	wishes(t, "<f>ab<i>c</i></f>", "i {margin: 1px; padding: 2px}", 30, 30, 16, 0, 8, 0)
	wishes(t, "<g>ab<i>c</i></g>", "i {margin: 1px; padding: 2px}", 16, 16, 16, 0, 8, 0)
	wishes(t, "<f><b>ab</b><b>c</b></f>", "b {margin-left: -10px}", 4, 4, 16, 0, 8, 0)
	wishes(t, "<f><b></b><b></b></f>", "b {margin-left: -10px}", 0, -20, 0, 0)
	wishes(t, "<g><b></b><b></b></g>", "b {margin-left: -10px}", 0, 0, 0, 0)
	wishes(t, "<f><f><b></b></f><b>ab</b></f>", "b {margin-left: -10px}", 0, -4, -10, 0, 16, 0)
	wishes(t, "<f><b>ab</b><b>c</b></f>", "b {width: 5px; padding-left: 1px; flex-grow: 1; order: -1}", 12, 12, 16, 0, 8, 0)
	wishes(t, "<f><b>ab</b><b>c</b></f>", "b {width: 50%}", 24, 24, 16, 0, 8, 0)
	wishes(t, "<g><b>ab</b><b>c</b></g>", "b {width: 5px; padding-left: 1px}", 6, 6, 16, 0, 8, 0)
	// A Block isn't a row, whatever its direction.
	wishes(t, "<p><b>ab</b><b>c</b></p>", "p {flex-direction: row}", 16, 16, 16, 0, 8, 0)
}

func TestWishOfNone(t *testing.T) {
	s := scene(t, "<p>ab</p><i>c</i><img src=\"u\">", sorts)
	// 0 root, 1 p, 2 text, 3 anon, 4 i, 5 text, 6 img
	for at := -3; at < 12; at++ {
		want := map[int]int64{0: 18, 1: 16, 3: 18}[at]
		if n, is := layout.Wish(s, at); n != 64*want || !is {
			t.Errorf("the wish of %d is %d, %v", at, n, is)
		}
	}
	for _, at := range []int{math.MinInt, -1, 0, 1, math.MaxInt} {
		if n, is := layout.Wish(measure.Scene{}, at); n != 0 || !is {
			t.Errorf("the wish of %d of none is %d, %v", at, n, is)
		}
	}
}

// P19.2: blocks

func TestLayNothing(t *testing.T) {
	check(t, "", "", 100, 0)
	check(t, "", "", 0, 0)
	check(t, "<n>x</n>", "", 100, 0)
	check(t, " ", "", 100, 0, r(0, 0, 0, 0))
	check(t, "<i></i>", "", 100, 0, r(0, 0, 0, 0))
	check(t, "<p></p>", "", 100, 0, r(0, 0, 100, 0))
	check(t, "<f></f>", "", 100, 0, r(0, 0, 100, 0))
	check(t, "<g></g>", "", 100, 0, r(0, 0, 100, 0))
	check(t, "<f> </f><p> </p>", "", 100, 0, r(0, 0, 100, 0), r(0, 0, 100, 0), r(0, 0, 0, 0))
}

func TestLayBlocks(t *testing.T) {
	// All sides are unlike.
	check(t, "<p>ab</p>", "p {margin: 1px 2px 3px 4px; border-width: 5px 6px 7px 8px; padding: 9px 10px 11px 12px}", 200, 52, r(4, 1, 194, 48), r(24, 15, 16, 16))
	// A Width is that of the content.
	check(t, "<p>ab</p>", "p {width: 50px; margin: 1px 2px 3px 4px; border-width: 5px 6px 7px 8px; padding: 9px 10px 11px 12px}", 200, 52, r(4, 1, 86, 48), r(24, 15, 16, 16))
	check(t, "<p>ab</p>", "p {width: 50%; padding: 0 1px}", 200, 16, r(0, 0, 102, 16), r(1, 0, 16, 16))
	check(t, "<p><b>x</b></p>", "p, b {width: 50%; padding-left: 1px}", 200, 16, r(0, 0, 101, 16), r(1, 0, 51, 16), r(2, 0, 8, 16))
	check(t, "<p>ab</p>", "p {width: 300%}", 20, 16, r(0, 0, 60, 16), r(0, 0, 16, 16))
	// Sides that are wider than the room.
	check(t, "<p>a b</p>", "p {padding: 0 60px}", 100, 32, r(0, 0, 120, 32), r(60, 0, 8, 32))
	// So is a Height; a percentage is as none.
	check(t, "<p>ab</p><b></b>", "p {height: 5px; padding: 1px; border-width: 2px 0}", 100, 11, r(0, 0, 100, 11), r(1, 3, 16, 16), r(0, 11, 100, 0))
	check(t, "<p>ab</p><b></b>", "p {height: 50%}", 100, 16, r(0, 0, 100, 16), r(0, 0, 16, 16), r(0, 16, 100, 0))
	check(t, "<p>ab</p><b></b>", "p {height: 0}", 100, 0, r(0, 0, 100, 0), r(0, 0, 16, 16), r(0, 0, 100, 0))
	check(t, "<p><b></b></p>", "p {height: 50px} b {height: 70px}", 100, 50, r(0, 0, 100, 50), r(0, 0, 100, 70))
}

func TestLayMargins(t *testing.T) {
	const css = "p, b {height: 10px} "
	check(t, "<p></p><b></b>", css+"p {margin: 5px 0 8px} b {margin: 3px 0 1px}", 100, 34, r(0, 5, 100, 10), r(0, 23, 100, 10))
	check(t, "<p></p><b></b>", css+"p {margin: 5px 0 3px} b {margin: 8px 0 1px}", 100, 34, r(0, 5, 100, 10), r(0, 23, 100, 10))
	check(t, "<p></p><b></b>", css+"p {margin: 5px 0 8px} b {margin: -3px 0 1px}", 100, 31, r(0, 5, 100, 10), r(0, 20, 100, 10))
	check(t, "<p></p><b></b>", css+"p {margin: -5px 0 -8px} b {margin: -3px 0 -1px}", 100, 6, r(0, -5, 100, 10), r(0, -3, 100, 10))
	check(t, "<p></p><b></b>", css+"p {margin-bottom: auto} b {margin-top: auto}", 100, 20, r(0, 0, 100, 10), r(0, 10, 100, 10))
	check(t, "<p></p>", css+"p {margin-bottom: -30px}", 100, 0, r(0, 0, 100, 10))
	// They do not meet those of what they stand in, nor across an Anon one.
	check(t, "<p><b></b></p>", "p {margin: 10px 0} b {height: 1px; margin: 20px 0}", 100, 61, r(0, 10, 100, 41), r(0, 30, 100, 1))
	check(t, "<p></p>x<b></b>", css+"p, b {margin: 5px 0}", 100, 56, r(0, 5, 100, 10), r(0, 20, 100, 16), r(0, 20, 8, 16), r(0, 41, 100, 10))
	// Those of the root count for nothing, as it has none of its own.
	check(t, "<p></p>", "root {margin: 9px; padding: 9px; width: 5px}", 100, 0, r(0, 0, 100, 0))
}

func TestLayAutoMargins(t *testing.T) {
	check(t, "<p></p>", "p {width: 20px; margin: 0 auto}", 100, 0, r(40, 0, 20, 0))
	check(t, "<p></p>", "p {width: 20px; margin-left: auto}", 100, 0, r(80, 0, 20, 0))
	check(t, "<p></p>", "p {width: 20px; margin-right: auto}", 100, 0, r(0, 0, 20, 0))
	check(t, "<p></p>", "p {width: 20px; margin: 0 7px 0 auto; padding: 0 1px; border-width: 0 2px}", 100, 0, r(67, 0, 26, 0))
	check(t, "<p></p>", "p {width: 20px; margin: 0 auto; padding: 0 1px; border-width: 0 2px}", 100, 0, r(37, 0, 26, 0))
	check(t, "<p></p>", "p {width: 20px; margin: 0 auto}", 20, 0, r(0, 0, 20, 0))
	check(t, "<p></p>", "p {width: 20px; margin: 0 auto}", 10, 0, r(0, 0, 20, 0))
	check(t, "<p></p>", "p {margin: 0 auto}", 100, 0, r(0, 0, 100, 0))
	check(t, "<p><b></b></p>", "p {padding: 0 10px} b {width: 50%; margin: 0 auto}", 100, 0, r(0, 0, 100, 0), r(30, 0, 40, 0))
	check(t, "<p></p>", "p {width: 20px; margin: 0 auto; left: 1px}", 100, 0, r(41, 0, 20, 0))
}

func TestLayMoved(t *testing.T) {
	check(t, "<p>x</p><b></b>", "p {left: 3px; top: 5px}", 100, 16, r(3, 5, 100, 16), r(3, 5, 8, 16), r(0, 16, 100, 0))
	check(t, "<p>x</p><b></b>", "p {left: -3px; top: -5px}", 100, 16, r(-3, -5, 100, 16), r(-3, -5, 8, 16), r(0, 16, 100, 0))
	check(t, "<p><b>x</b></p>", "p {left: 3px; top: 5px} b {left: 10px; top: 20px}", 100, 16, r(3, 5, 100, 16), r(13, 25, 100, 16), r(13, 25, 8, 16))
	// What stands in lines isn't moved, nor is an Anon one, nor the root.
	check(t, "<i>x</i><img src=\"u\">", "i, img, root {left: 3px; top: 5px}", 100, 16, r(0, 0, 8, 16), r(0, 0, 8, 16), r(8, 11, 10, 5))
	check(t, "<p>x<b></b></p>", "p {left: 3px; top: 5px}", 100, 16, r(3, 5, 100, 16), r(3, 5, 100, 16), r(3, 5, 8, 16), r(3, 21, 100, 0))
}

// An Anon box has no width, sides or colors of its node's.
func TestLayAnon(t *testing.T) {
	check(t, "<p>x<b></b></p>", "p {width: 50px; height: 60px; margin: 1px; padding: 2px; border-width: 3px; text-align: right; font-size: 8px; background-color: red}", 100, 72, r(1, 1, 60, 70), r(6, 6, 50, 8), r(52, 6, 4, 8), r(6, 14, 50, 0))
	check(t, "<f>x<b>y</b></f>", "f {width: 50px; padding: 2px; flex-grow: 1; order: 3}", 100, 20, r(0, 0, 54, 20), r(2, 2, 8, 16), r(2, 2, 8, 16), r(10, 2, 8, 16), r(10, 2, 8, 16))
}

// P19.2: lines

func TestLayLines(t *testing.T) {
	check(t, "ab c", "", 32, 16, r(0, 0, 32, 16))
	check(t, "ab c", "", 31, 32, r(0, 0, 16, 32))
	check(t, "ab c", "", 0, 32, r(0, 0, 16, 32))
	check(t, "ab<i>c</i> d", "", 24, 32, r(0, 0, 16, 16), r(16, 0, 8, 16), r(16, 0, 8, 16), r(0, 16, 8, 16))
	check(t, "ab<i>c</i> d", "", 20, 32, r(0, 0, 16, 16), r(16, 0, 8, 16), r(16, 0, 8, 16), r(0, 16, 8, 16))
	// An Inline one is the union of what stands in it, in several lines, too.
	check(t, "a <i>bb c <u>d</u></i> e", "", 30, 64, r(0, 0, 8, 16), r(0, 16, 24, 32), r(0, 16, 16, 32), r(16, 32, 8, 16), r(16, 32, 8, 16), r(0, 48, 8, 16))
	check(t, "a <i>bb c <u>d</u></i> e", "", 32, 48, r(0, 0, 8, 16), r(0, 0, 32, 32), r(0, 0, 32, 32), r(16, 16, 8, 16), r(16, 16, 8, 16), r(0, 32, 8, 16))
	check(t, "a<i></i>b", "", 30, 16, r(0, 0, 8, 16), r(0, 0, 0, 0), r(8, 0, 8, 16))
	check(t, "a<i> <u></u> </i>b", "", 30, 16, r(0, 0, 8, 16), r(0, 0, 0, 0), r(0, 0, 0, 0), r(0, 0, 0, 0), r(0, 0, 0, 0), r(16, 0, 8, 16))
	check(t, "<i><b>x</b><f>y</f></i>", "b, f {width: 1px; padding: 9px; left: 5px}", 30, 16, r(0, 0, 16, 16), r(0, 0, 8, 16), r(0, 0, 8, 16), r(8, 0, 8, 16), r(8, 0, 8, 16))
	// Letters of unlike sizes stand on one lower end.
	check(t, "a<i>b</i> c", "i {font-size: 32px}", 100, 32, r(0, 16, 8, 16), r(8, 0, 16, 32), r(8, 0, 16, 32), r(32, 16, 8, 16))
}

func TestLayAligned(t *testing.T) {
	for align, moved := range map[string]int64{"left": 0, "center": 37, "right": 74} {
		check(t, "<p>a b</p>", "p {padding: 1px; text-align: "+align+"}", 100, 18, r(0, 0, 100, 18), r(1+moved, 1, 24, 16))
	}
	check(t, "<p>aa b</p>", "p {text-align: right}", 20, 32, r(0, 0, 20, 32), r(4, 0, 16, 32))
	check(t, "<p>aaa b</p>", "p {text-align: center}", 20, 32, r(0, 0, 20, 32), r(0, 0, 24, 32))
	// It is passed on, to Anon ones, too.
	check(t, "<p>a<b>b</b></p>", "p {text-align: right}", 20, 32, r(0, 0, 20, 32), r(0, 0, 20, 16), r(12, 0, 8, 16), r(0, 16, 20, 16), r(12, 16, 8, 16))
	s := scene(t, "a", "")
	s.Styles[0][value.TextAlign].N = 3
	if got, e := layout.Lay(s, 640); e != api.OK || got.Rects[1] != r(0, 0, 8, 16) {
		t.Errorf("by no word: %v, %d", got, e)
	}
}

func TestLayImages(t *testing.T) {
	check(t, `<img src="u">`, "", 100, 5, r(0, 0, 10, 5))
	check(t, `<img src="v">`, "", 100, 16, r(0, 0, 16, 16))
	check(t, `<img src="w"><img>`, "", 100, 0, r(0, 0, 0, 0), r(0, 0, 0, 0))
	check(t, `<img src="u">`, "img {width: 3px; height: 4px; margin: 9px; padding: 9px; display: block}", 100, 4, r(0, 0, 3, 4))
	check(t, `<img src="u"><img src="v">`, "", 25, 21, r(0, 0, 10, 5), r(0, 5, 16, 16))
	check(t, `a<img src="u"><p></p>`, "", 100, 16, r(0, 0, 100, 16), r(0, 0, 8, 16), r(8, 11, 10, 5), r(0, 16, 100, 0))
	check(t, `<f><img src="u"><i></i></f>`, "img {order: 1; flex-grow: 1}", 100, 5, r(0, 0, 100, 5), r(0, 0, 10, 5), r(0, 0, 10, 5), r(10, 0, 0, 0))
}
