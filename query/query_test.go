package query_test

import (
	"math"
	"slices"
	"strings"
	"testing"

	"scrim/api"
	"scrim/box"
	"scrim/cascade"
	"scrim/layout"
	"scrim/measure"
	"scrim/query"
	"scrim/res"
	"scrim/sheet"
	"scrim/tree"
	"scrim/value"
)

// page is what is asked.
type page struct {
	scene  measure.Scene
	result layout.Result
}

// table is one of an image u of 10 to 5 px that is Open, one v that isn't, and a font of letters half as wide as high.
func table() res.Table {
	return res.Table{Images: []res.Image{{Src: "u", W: 640, H: 320, Open: true}, {Src: "v", W: 7, H: 9}}, Font: res.Font{Advance: 32, Open: true}}
}

// sorts are rules for tags of each sort.
const sorts = "p {display: block} f {display: flex} n {display: none} "

// pageOf tells a page, 100 px wide.
func pageOf(t *testing.T, html, css string) page {
	t.Helper()
	l, e := tree.Read(html)
	rules, f := sheet.Read(sorts + css)
	if e != api.OK || f != api.OK {
		t.Fatalf("%q, %q: %d, %d", html, css, e, f)
	}
	return laid(t, l, rules, table())
}

func laid(t *testing.T, l []api.Node, rules []sheet.Rule, table res.Table) page {
	t.Helper()
	s := measure.Scene{Doc: l, Styles: cascade.Public(l, rules), Table: table}
	s.Boxes, _ = box.Build(l, s.Styles)
	r, e := layout.Lay(s, 6400)
	if e != api.OK {
		t.Fatalf("%+v: %d", s, e)
	}
	return page{scene: s, result: r}
}

// r is a place, by pixels.
func r(x, y, w, h int64) api.Rect { return api.Rect{X: 64 * x, Y: 64 * y, W: 64 * w, H: 64 * h} }

// P21.1: Computed

func TestComputedOfEachProperty(t *testing.T) {
	const css = "b {display: flex; width: 50%; height: auto; margin: 1px -2px auto 0; padding: 4.5px 5px 6px 7px; border-width: 8px 9px 10px 11px; color: red; background-color: #0A0b0C; font-size: 12.25px; text-align: center; flex-grow: 2; flex-shrink: 0.5; flex-direction: column; justify-content: between; order: -3; left: 13px; top: -14px}"
	l, _ := tree.Read("<b>x</b>")
	rules, _ := sheet.Read(css)
	styles := cascade.Public(l, rules)
	told := [value.Many][3]string{
		value.Display:       {"inline", "flex", "inline"},
		value.Width:         {"auto", "50%", "auto"},
		value.Height:        {"auto", "auto", "auto"},
		value.MarginTop:     {"0px", "1px", "0px"},
		value.MarginRight:   {"0px", "-2px", "0px"},
		value.MarginBottom:  {"0px", "auto", "0px"},
		value.MarginLeft:    {"0px", "0px", "0px"},
		value.PaddingTop:    {"0px", "4.5px", "0px"},
		value.PaddingRight:  {"0px", "5px", "0px"},
		value.PaddingBottom: {"0px", "6px", "0px"},
		value.PaddingLeft:   {"0px", "7px", "0px"},
		value.BorderTop:     {"0px", "8px", "0px"},
		value.BorderRight:   {"0px", "9px", "0px"},
		value.BorderBottom:  {"0px", "10px", "0px"},
		value.BorderLeft:    {"0px", "11px", "0px"},
		value.Color:         {"#000000", "#ff0000", "#ff0000"},
		value.Background:    {"#ffffff", "#0a0b0c", "#ffffff"},
		value.FontSize:      {"16px", "12.25px", "12.25px"},
		value.TextAlign:     {"left", "center", "center"},
		value.Grow:          {"0", "2", "0"},
		value.Shrink:        {"1", "0.5", "1"},
		value.Direction:     {"row", "column", "row"},
		value.Justify:       {"start", "between", "start"},
		value.Order:         {"0", "-3", "0"},
		value.Left:          {"0px", "13px", "0px"},
		value.Top:           {"0px", "-14px", "0px"},
	}
	for prop := 1; prop < value.Many; prop++ {
		for node, want := range told[prop] {
			if got, e := query.Computed(styles, node, value.Name(prop)); got != want || e != api.OK {
				t.Errorf("%s of %d is %q, %d, want %q", value.Name(prop), node, got, e, want)
			}
		}
	}
}

func holdComputed(t *testing.T, styles []cascade.Style, node int, name, want string, wantErrno api.Errno) {
	t.Helper()
	if got, e := query.Computed(styles, node, name); got != want || e != wantErrno {
		t.Errorf("Computed(%d styles, %d, %q) = %q, %d, want %q, %d", len(styles), node, name, got, e, want, wantErrno)
	}
}

func TestComputedOfNone(t *testing.T) {
	s := pageOf(t, "<p>x</p>", "").scene.Styles
	for _, node := range []int{-1, -2, 3, 4, math.MinInt, math.MaxInt} {
		holdComputed(t, s, node, "width", "", api.ErrName)
		holdComputed(t, s, node, "x", "", api.ErrName)
	}
	for _, name := range []string{"", " ", "x", "margin", "padding", "border-width", "Width", "WIDTH", " width", "width ", "width\x00", "widt", "widths", "border-top", "background", "flex", "0", "2", "root", "--", strings.Repeat("width", 1000)} {
		holdComputed(t, s, 1, name, "", api.ErrName)
	}
	for _, styles := range [][]cascade.Style{nil, {}} {
		holdComputed(t, styles, 0, "width", "", api.ErrName)
	}
	// The last node, and the first one.
	holdComputed(t, s, 2, "display", "inline", api.OK)
	holdComputed(t, s, 0, "display", "inline", api.OK)
}

// The text is that of value.Print, also of a value that may not be.
func TestComputedOfWrongValues(t *testing.T) {
	var s cascade.Style
	s[value.Width] = api.Value{Kind: api.Color, N: 5}
	s[value.Top] = api.Value{Kind: api.Length, N: math.MinInt64}
	for _, name := range []string{"width", "top", "color"} {
		holdComputed(t, []cascade.Style{s}, 0, name, "", api.OK)
	}
}

// P21.1: Offset

func TestOffset(t *testing.T) {
	const most, pixels = api.MostFixed, api.MostFixed / 64
	for _, c := range [][2]int64{
		{0, 0}, {1, 0}, {31, 0}, {32, 1}, {33, 1}, {63, 1}, {64, 1}, {95, 1}, {96, 2}, {97, 2}, {128, 2}, {159, 2}, {160, 3},
		{-1, 0}, {-31, 0}, {-32, 0}, {-33, -1}, {-63, -1}, {-64, -1}, {-65, -1}, {-95, -1}, {-96, -1}, {-97, -2}, {-128, -2}, {-160, -2}, {-161, -3},
		{most, pixels}, {most - 1, pixels}, {most - 32, pixels}, {most - 33, pixels - 1},
		{-most, -pixels}, {-most + 1, -pixels}, {-most + 31, -pixels}, {-most + 32, -pixels + 1},
	} {
		// Each number of a place has its own answer; W and H aren't below 0.
		size := max(c[0], 0)
		want := max(c[1], 0)
		for i, x := range []struct {
			place api.Rect
			want  [4]int64
		}{
			{api.Rect{X: c[0]}, [4]int64{c[1], 0, 0, 0}},
			{api.Rect{Y: c[0]}, [4]int64{0, c[1], 0, 0}},
			{api.Rect{W: size}, [4]int64{0, 0, want, 0}},
			{api.Rect{H: size}, [4]int64{0, 0, 0, want}},
		} {
			if got := query.Offset(x.place); got != x.want {
				t.Errorf("%d: Offset(%v) = %v, want %v", i, x.place, got, x.want)
			}
		}
	}
}

// Every number near 0 is held against a quotient that is rounded down.
func TestOffsetOfAll(t *testing.T) {
	for n := int64(-300); n <= 300; n++ {
		want := int64(math.Floor(float64(n+32) / 64))
		if got := query.Offset(api.Rect{X: n, Y: -n, W: max(n, 0), H: max(-n, 0)}); got[0] != want || n >= 0 && got[2] != want || n <= 0 && got[3] != got[1] {
			t.Errorf("of %d: %v, want %d", n, got, want)
		}
	}
}

// Places that may not be: there is an answer, and nothing wraps.
func TestOffsetOfWrongPlaces(t *testing.T) {
	const most = math.MaxInt64
	got := query.Offset(api.Rect{X: most, Y: math.MinInt64, W: -96, H: most - 32})
	if want := [4]int64{1 << 57, -1 << 57, -1, 1<<57 - 1}; got != want {
		t.Errorf("%v, want %v", got, want)
	}
}

// P21.2

// holdPlaces holds a node's place, and those of its parts; by pixels.
func (p page) holdPlaces(t *testing.T, node int, want *api.Rect, parts ...api.Rect) {
	t.Helper()
	got, is := query.Place(p.scene, p.result, node)
	if want == nil {
		want = &api.Rect{}
		if is {
			t.Errorf("there is a place of %d", node)
		}
	} else if !is {
		t.Errorf("there is no place of %d", node)
	}
	if got != *want {
		t.Errorf("the place of %d is %v, want %v", node, got, *want)
	}
	if l := query.Rects(p.scene, p.result, node); !slices.Equal(l, parts) {
		t.Errorf("the places of %d are %v, want %v", node, l, parts)
	}
}

func at(x, y, w, h int64) *api.Rect {
	place := r(x, y, w, h)
	return &place
}

func TestPlacesOfNoNode(t *testing.T) {
	p := pageOf(t, "<p>x</p>", "")
	for _, node := range []int{-1, -2, 3, 4, math.MinInt, math.MaxInt} {
		p.holdPlaces(t, node, nil)
	}
	for _, node := range []int{-1, 0, 1} {
		page{}.holdPlaces(t, node, nil)
	}
}

func TestPlacesOfBoxesInBlocks(t *testing.T) {
	p := pageOf(t, "<p>x y</p><f><i>z</i><img src=\"u\"></f>", "p {margin: 1px; padding: 2px; border-width: 3px; width: 8px} f {left: 5px}")
	// 0 root, 1 p, 2 x y, 3 f, 4 i, 5 z, 6 img: their own border, whatever stands in them.
	p.holdPlaces(t, 0, at(0, 0, 100, 60), r(0, 0, 100, 60))
	p.holdPlaces(t, 1, at(1, 1, 18, 42), r(1, 1, 18, 42))
	p.holdPlaces(t, 2, at(6, 6, 8, 32), r(6, 6, 8, 16), r(6, 22, 8, 16))
	p.holdPlaces(t, 3, at(5, 44, 100, 16), r(5, 44, 100, 16))
	// An inline one in a flex is a block.
	p.holdPlaces(t, 4, at(5, 44, 8, 16), r(5, 44, 8, 16))
	p.holdPlaces(t, 6, at(13, 44, 10, 5), r(13, 44, 10, 5))
	// A block of nothing has a place, too.
	pageOf(t, "<p></p>", "").holdPlaces(t, 1, at(0, 0, 100, 0), r(0, 0, 100, 0))
}

func TestPlacesOfNodesWithoutBoxes(t *testing.T) {
	p := pageOf(t, "<n>x<p>y</p></n><p>z</p> <p></p>", "")
	// 0 root, 1 n, 2 x, 3 p, 4 y, 5 p, 6 z, 7 " ", 8 p: what isn't shown, all in it, and blanks between blocks.
	for _, node := range []int{1, 2, 3, 4, 7} {
		p.holdPlaces(t, node, nil)
	}
	p.holdPlaces(t, 5, at(0, 0, 100, 16), r(0, 0, 100, 16))
	p.holdPlaces(t, 8, at(0, 16, 100, 0), r(0, 16, 100, 0))
}

func TestPlacesOfNodesWithAnonBoxes(t *testing.T) {
	// 0 root, 1 p, 2 x, 3 p, 4 y, 5 f, 6 z: p and f have Anon boxes, too, whose places aren't theirs.
	p := pageOf(t, "<p>x<p></p>y</p><f>z</f>", "p {width: 50px} f {height: 20px}")
	p.holdPlaces(t, 1, at(0, 0, 50, 32), r(0, 0, 50, 32))
	p.holdPlaces(t, 5, at(0, 32, 100, 20), r(0, 32, 100, 20))
	// One of an Anon box alone has none.
	s := measure.Scene{Doc: p.scene.Doc, Styles: p.scene.Styles, Boxes: []box.Box{{Kind: box.Block, Parent: -1, Kids: []int{1}}, {Node: 1, Kind: box.Anon, Parent: 0}}}
	result := layout.Result{Rects: []api.Rect{r(0, 0, 9, 9), r(1, 2, 3, 4)}}
	alone := page{scene: s, result: result}
	alone.holdPlaces(t, 0, at(0, 0, 9, 9), r(0, 0, 9, 9))
	alone.holdPlaces(t, 1, nil)
}

func TestPlacesOfInlines(t *testing.T) {
	// 0 root, 1 i, 2 a, 3 i, 4 "b b", 5 c, 6 img, 7 p, 8 d, 9 e
	p := pageOf(t, `<i>a<i>b b</i>c<img src="u"><p>d</p></i>e`, "i {background-color: red}")
	p.result, _ = layout.Lay(p.scene, 64*16)
	// Lines: "ab", "bc", the image, and "de".
	p.holdPlaces(t, 1, at(0, 0, 16, 53), r(0, 0, 8, 16), r(8, 0, 8, 16), r(0, 16, 8, 16), r(8, 16, 8, 16), r(0, 32, 10, 5), r(0, 37, 8, 16))
	p.holdPlaces(t, 2, at(0, 0, 8, 16), r(0, 0, 8, 16))
	p.holdPlaces(t, 3, at(0, 0, 16, 32), r(8, 0, 8, 16), r(0, 16, 8, 16))
	p.holdPlaces(t, 4, at(0, 0, 16, 32), r(8, 0, 8, 16), r(0, 16, 8, 16))
	p.holdPlaces(t, 6, at(0, 32, 10, 5), r(0, 32, 10, 5))
	// A block that stands in lines is Inline: its fragments are its places.
	p.holdPlaces(t, 7, at(0, 37, 8, 16), r(0, 37, 8, 16))
	p.holdPlaces(t, 9, at(8, 37, 8, 16), r(8, 37, 8, 16))
	// What stands behind an Inline isn't in it.
	p = pageOf(t, "<i>a</i><i>b</i>", "")
	p.holdPlaces(t, 1, at(0, 0, 8, 16), r(0, 0, 8, 16))
	p.holdPlaces(t, 3, at(8, 0, 8, 16), r(8, 0, 8, 16))
}

func TestPlacesOfBoxesWithoutFragments(t *testing.T) {
	// 0 root, 1 i, 2 i, 3 " ", 4 p, 5 "x", 6 i, 7 " "
	p := pageOf(t, "<i><i> </i></i><p>x<i> </i></p>", "")
	for _, node := range []int{1, 2, 3, 6, 7} {
		p.holdPlaces(t, node, at(0, 0, 0, 0))
	}
}

func TestPlacesOfImages(t *testing.T) {
	p := pageOf(t, `<img src="u"><img src="v"><img>`, "")
	p.holdPlaces(t, 1, at(0, 11, 10, 5), r(0, 11, 10, 5))
	p.holdPlaces(t, 2, at(10, 0, 16, 16), r(10, 0, 16, 16))
	p.holdPlaces(t, 3, at(26, 16, 0, 0), r(26, 16, 0, 0))
}
