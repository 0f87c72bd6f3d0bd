package paint_test

import (
	"slices"
	"testing"

	"scrim/api"
	"scrim/box"
	"scrim/cascade"
	"scrim/layout"
	"scrim/measure"
	"scrim/paint"
	"scrim/res"
	"scrim/sheet"
	"scrim/tree"
	"scrim/value"
)

// page is what items are of.
type page struct {
	scene   measure.Scene
	painted []cascade.Style
	result  layout.Result
}

func (p page) items() []paint.Item { return paint.Items(p.scene, p.painted, p.result) }

// table is one of an image u of 10 to 5 px that is Open, one v that isn't, and a font of letters half as wide as high.
func table() res.Table {
	return res.Table{Images: []res.Image{{Src: "u", W: 640, H: 320, Open: true}, {Src: "v", W: 7, H: 9}}, Font: res.Font{Advance: 32, Open: true}}
}

// sorts are rules for tags of each sort.
const sorts = "p {display: block} f {display: flex} n {display: none} "

// pageOf tells a page, 100 px wide.
func pageOf(t *testing.T, html, css string, table res.Table, seen ...string) page {
	t.Helper()
	l, e := tree.Read(html)
	rules, f := sheet.Read(sorts + css)
	if e != api.OK || f != api.OK {
		t.Fatalf("%q, %q: %d, %d", html, css, e, f)
	}
	return laid(t, l, rules, table, seen)
}

func laid(t *testing.T, l []api.Node, rules []sheet.Rule, table res.Table, seen []string) page {
	t.Helper()
	s := measure.Scene{Doc: l, Styles: cascade.Public(l, rules), Table: table}
	s.Boxes, _ = box.Build(l, s.Styles)
	r, e := layout.Lay(s, 6400)
	if e != api.OK {
		t.Fatalf("%+v: %d", s, e)
	}
	return page{scene: s, painted: cascade.Paint(l, rules, seen), result: r}
}

// r is a place, by pixels.
func r(x, y, w, h int64) api.Rect { return api.Rect{X: 64 * x, Y: 64 * y, W: 64 * w, H: 64 * h} }

const (
	white = 0xffffff
	red   = 0xff0000
	green = 0x008000
	blue  = 0x0000ff
)

func fill(x, y, w, h, color int64) paint.Item {
	return paint.Item{Kind: paint.Fill, Rect: r(x, y, w, h), Color: color}
}

// text is one of letters 32 units wide.
func text(x, y, w, h, color int64, s string) paint.Item {
	return paint.Item{Kind: paint.Text, Rect: r(x, y, w, h), Color: color, Text: s, Wide: 32}
}

func picture(x, y, w, h int64, src string, wide, high int64) paint.Item {
	return paint.Item{Kind: paint.Picture, Rect: r(x, y, w, h), Text: src, Wide: wide, High: high}
}

// check holds the items of a page, and what is open of them.
func check(t *testing.T, p page, want ...paint.Item) {
	t.Helper()
	got := p.items()
	if !slices.Equal(got, want) {
		t.Errorf("%+v: items\n%+v, want\n%+v", p.scene.Doc, got, want)
	}
	open := paint.Open(got)
	for i := range want {
		want[i].Color, want[i].Wide, want[i].High = 0, 0, 0
	}
	if !slices.Equal(open, want) {
		t.Errorf("%+v: open\n%+v, want\n%+v", p.scene.Doc, open, want)
	}
}

// P20.1: Items

func TestNumbersOfKinds(t *testing.T) {
	if got := [3]int{paint.Fill, paint.Text, paint.Picture}; got != [3]int{1, 2, 3} {
		t.Errorf("kinds are %v", got)
	}
}

func TestNoBoxes(t *testing.T) {
	check(t, page{})
	check(t, page{painted: make([]cascade.Style, 3), scene: measure.Scene{Table: table()}})
}

func TestEachKindOfBox(t *testing.T) {
	const css = "p {background-color: blue} f {background-color: red} i {background-color: green} img {background-color: #010203} root {background-color: red}"
	check(t, pageOf(t, "", css, table()), fill(0, 0, 100, 0, white))
	check(t, pageOf(t, "x", css, table()), fill(0, 0, 100, 16, white), text(0, 0, 8, 16, 0, "x"))
	check(t, pageOf(t, "<p>x</p>", css, table()), fill(0, 0, 100, 16, white), fill(0, 0, 100, 16, blue), text(0, 0, 8, 16, 0, "x"))
	check(t, pageOf(t, "<i>x</i>", css, table()), fill(0, 0, 100, 16, white), fill(0, 0, 8, 16, green), text(0, 0, 8, 16, 0, "x"))
	// Of an image nothing is filled, whatever its Background.
	check(t, pageOf(t, `<img src="u">`, css, table()), fill(0, 0, 100, 5, white), picture(0, 0, 10, 5, "u", 640, 320))
	// Of an Anon box nothing is filled, be it in a Block or in a Flex.
	check(t, pageOf(t, "<p>x<p></p></p>", css, table()), fill(0, 0, 100, 16, white), fill(0, 0, 100, 16, blue), fill(0, 16, 100, 0, blue), text(0, 0, 8, 16, 0, "x"))
	check(t, pageOf(t, "<f>x<i>y</i></f>", css, table()), fill(0, 0, 100, 16, white), fill(0, 0, 100, 16, red), fill(8, 0, 8, 16, green), text(0, 0, 8, 16, 0, "x"), text(8, 0, 8, 16, 0, "y"))
	// A block in what stands in lines is Inline.
	check(t, pageOf(t, "<i>x<p>y</p></i>", css, table()), fill(0, 0, 100, 16, white), fill(0, 0, 16, 16, green), fill(8, 0, 8, 16, blue), text(0, 0, 8, 16, 0, "x"), text(8, 0, 8, 16, 0, "y"))
	// What isn't shown isn't painted.
	check(t, pageOf(t, "<n>x<p>y</p><img></n>", css, table()), fill(0, 0, 100, 0, white))
}

func TestBoxesWithoutFragments(t *testing.T) {
	check(t, pageOf(t, "<i></i>", "i {background-color: blue}", table()), fill(0, 0, 100, 0, white), fill(0, 0, 0, 0, blue))
	check(t, pageOf(t, "<i> </i>", "i {background-color: blue}", table()), fill(0, 0, 100, 0, white), fill(0, 0, 0, 0, blue))
	check(t, pageOf(t, " \t\n\r", "", table()), fill(0, 0, 100, 0, white))
	check(t, pageOf(t, "<p></p> <p> </p>", "p {background-color: blue}", table()), fill(0, 0, 100, 0, white), fill(0, 0, 100, 0, blue), fill(0, 0, 100, 0, blue))
	check(t, pageOf(t, "<f></f>", "f {height: 3px; width: 2px}", table()), fill(0, 0, 100, 3, white), fill(0, 0, 2, 3, white))
}

func TestFragmentsOfOneText(t *testing.T) {
	check(t, pageOf(t, "<p><i>aa b  cc</i></p>", "p {width: 24px} i {background-color: green; color: red}", table()),
		fill(0, 0, 100, 48, white), fill(0, 0, 24, 48, white), fill(0, 0, 16, 48, green),
		text(0, 0, 16, 16, red, "aa"), text(0, 16, 8, 16, red, "b"), text(0, 32, 16, 16, red, "cc"))
	check(t, pageOf(t, "a b", "", table()), fill(0, 0, 100, 16, white), text(0, 0, 8, 16, 0, "a"), text(16, 0, 8, 16, 0, "b"))
}

// All fills are ahead of all fragments; both go box by box, also where a later box stands ahead.
func TestOrderOfItems(t *testing.T) {
	check(t, pageOf(t, "<f><p>a</p><i>b</i></f>c", "p {order: 2; background-color: blue} f {background-color: green}", table()),
		fill(0, 0, 100, 32, white), fill(0, 0, 100, 16, green), fill(8, 0, 8, 16, blue), fill(0, 0, 8, 16, white),
		text(8, 0, 8, 16, 0, "a"), text(0, 0, 8, 16, 0, "b"), text(0, 16, 8, 16, 0, "c"))
	check(t, pageOf(t, `<p>a</p><img src="u">`, "p {top: 20px}", table()),
		fill(0, 0, 100, 21, white), fill(0, 20, 100, 16, white), text(0, 20, 8, 16, 0, "a"), picture(0, 16, 10, 5, "u", 640, 320))
}

func TestPlacesAreThoseThatWereLaid(t *testing.T) {
	const css = "p {margin: 2px; padding: 3px; border-width: 4px; width: 20px; left: 5px; top: 6px; background-color: blue}"
	check(t, pageOf(t, "<p>x</p>", css, table()), fill(0, 0, 100, 34, white), fill(7, 8, 34, 30, blue), text(14, 15, 8, 16, 0, "x"))
}

func TestPictures(t *testing.T) {
	// One that isn't Open is laid as 16 to 16 px, and painted as it is.
	check(t, pageOf(t, `<img src="v">`, "", table()), fill(0, 0, 100, 16, white), picture(0, 0, 16, 16, "v", 7, 9))
	// One that the table doesn't know, and one without an attribute src.
	check(t, pageOf(t, `<img src="w">`, "", table()), fill(0, 0, 100, 0, white), picture(0, 0, 0, 0, "w", 0, 0))
	check(t, pageOf(t, `<img alt="u">`, "", table()), fill(0, 0, 100, 0, white), picture(0, 0, 0, 0, "", 0, 0))
	check(t, pageOf(t, `<img src="">`, "", table()), fill(0, 0, 100, 0, white), picture(0, 0, 0, 0, "", 0, 0))
	// Another size is asked of styles: that is its place alone.
	check(t, pageOf(t, `<img src="v">`, "img {width: 3px; height: 4px; color: red}", table()), fill(0, 0, 100, 4, white), picture(0, 0, 3, 4, "v", 7, 9))
	// Sizes go by the table's first image of that Src, and each image has its own.
	twice := res.Table{Images: []res.Image{{Src: "u", W: 64, H: 128, Open: true}, {Src: "v", W: 1, H: 2, Open: true}, {Src: "u", W: 3, H: 4}}, Font: table().Font}
	check(t, pageOf(t, `<img src="u"><img src="u">`, "", twice), fill(0, 0, 100, 2, white), picture(0, 0, 1, 2, "u", 64, 128), picture(1, 0, 1, 2, "u", 64, 128))
}

// An img without an attribute src has the src "", which is one that a table can have.
func TestPictureOfEmptySrc(t *testing.T) {
	one := res.Table{Images: []res.Image{{W: 64, H: 128, Open: true}}}
	check(t, pageOf(t, `<img src="">`, "", one), fill(0, 0, 100, 2, white), picture(0, 0, 1, 2, "", 64, 128))
	check(t, pageOf(t, `<img>`, "img {width: 5px; height: 6px}", one), fill(0, 0, 100, 6, white), picture(0, 0, 5, 6, "", 64, 128))
}

// Letters are painted as wide as they are, and stand as wide as may be told.
func TestLetters(t *testing.T) {
	for _, c := range []struct {
		font res.Font
		wide int64
	}{{res.Font{Advance: 64, Open: true}, 16}, {res.Font{Advance: 64}, 8}, {res.Font{Advance: 0}, 8}, {res.Font{Advance: 0, Open: true}, 0}, {res.Font{Advance: 1024}, 8}, {res.Font{Advance: 32}, 8}} {
		x := text(0, 0, c.wide, 16, 0, "x")
		x.Wide = c.font.Advance
		check(t, pageOf(t, "x", "", res.Table{Font: c.font}), fill(0, 0, 100, 16, white), x)
	}
	// It hangs on no size of letters.
	check(t, pageOf(t, "x", "* {font-size: 8px}", table()), fill(0, 0, 100, 16, white), text(0, 0, 8, 16, 0, "x"))
	check(t, pageOf(t, "<p>x</p>", "p {font-size: 8px}", table()), fill(0, 0, 100, 8, white), fill(0, 0, 100, 8, white), text(0, 0, 4, 8, 0, "x"))
}

func TestLinks(t *testing.T) {
	const html = `<a href="h">x</a><a href="k">y</a>`
	const css = "a {color: red} a:visited {color: green; background-color: blue; display: none; font-size: 1px; width: 1px} a:link {background-color: #010203}"
	link := func(x int64, back, color int64, s string) (paint.Item, paint.Item) {
		return fill(x, 0, 8, 16, back), text(x, 0, 8, 16, color, s)
	}
	for _, c := range []struct {
		seen   []string
		colors [4]int64
	}{
		{nil, [4]int64{0x010203, red, 0x010203, red}},
		{[]string{"h"}, [4]int64{blue, green, 0x010203, red}},
		{[]string{"k"}, [4]int64{0x010203, red, blue, green}},
		{[]string{"x", "k", "h"}, [4]int64{blue, green, blue, green}},
		{[]string{"", "a"}, [4]int64{0x010203, red, 0x010203, red}},
	} {
		f, x := link(0, c.colors[0], c.colors[1], "x")
		g, y := link(8, c.colors[2], c.colors[3], "y")
		check(t, pageOf(t, html, css, table(), c.seen...), fill(0, 0, 100, 16, white), f, g, x, y)
	}
	// Colors are passed on from a link that was visited, backgrounds aren't.
	check(t, pageOf(t, `<a href="h"><i>x</i></a>`, css, table(), "h"), fill(0, 0, 100, 16, white), fill(0, 0, 8, 16, blue), fill(0, 0, 8, 16, white), text(0, 0, 8, 16, green, "x"))
}

// Colors are those of the painted styles, which may be any; those of the scene count for nothing.
func TestColorsAreThoseOfPaintedStyles(t *testing.T) {
	p := pageOf(t, "<p>x</p>", "p {color: red; background-color: blue}", table())
	for node := range p.painted {
		p.painted[node][value.Background].N, p.painted[node][value.Color].N = int64(10+node), int64(20+node)
	}
	check(t, p, fill(0, 0, 100, 16, 10), fill(0, 0, 100, 16, 11), text(0, 0, 8, 16, 22, "x"))
}

// P20.1: Open

func TestOpen(t *testing.T) {
	if got := paint.Open(nil); len(got) != 0 {
		t.Errorf("Open of none is %v", got)
	}
	if got := paint.Open([]paint.Item{}); len(got) != 0 {
		t.Errorf("Open of none is %v", got)
	}
	place := r(1, 2, 3, 4)
	for _, kind := range []int{paint.Fill, paint.Text, paint.Picture, 0, 4, -1} {
		x := paint.Item{Kind: kind, Rect: place, Color: 5, Text: "t", Wide: 6, High: 7}
		l := []paint.Item{x, {}, x}
		want := []paint.Item{{Kind: kind, Rect: place, Text: "t"}, {}, {Kind: kind, Rect: place, Text: "t"}}
		if got := paint.Open(l); !slices.Equal(got, want) {
			t.Errorf("Open of kind %d is %v", kind, got)
		}
		if !slices.Equal(l, []paint.Item{x, {}, x}) {
			t.Errorf("what is handed in is now %v", l)
		}
		if got := paint.Open(paint.Open(l)); !slices.Equal(got, want) {
			t.Errorf("Open twice of kind %d is %v", kind, got)
		}
	}
}
