package layout_test

import (
	"math"
	"strings"
	"testing"

	"scrim/api"
	"scrim/layout"
	"scrim/measure"
	"scrim/value"
)

// P19.2: errors

func holdErr(t *testing.T, what string, s measure.Scene, room int64, want api.Errno) {
	t.Helper()
	got, e := layout.Lay(s, room)
	if e != want {
		t.Errorf("%s in %d: error %d, want %d", what, room, e, want)
	}
	if e != api.OK && (len(got.Rects) > 0 || len(got.Frags) > 0) {
		t.Errorf("%s in %d: beside an error %v", what, room, got)
	}
}

func TestLayOfWrongOnes(t *testing.T) {
	s := scene(t, "<p>x</p>", sorts)
	for _, room := range []int64{-1, -64, -top, top + 1, 2 * top, math.MinInt64, math.MaxInt64} {
		holdErr(t, "a page", s, room, api.ErrArg)
		holdErr(t, "no page", measure.Scene{}, room, api.ErrArg)
		// Ahead of what isn't exact.
		holdErr(t, "a far page", scene(t, "<p></p>", sorts+"p {width: 999999999px; padding: 999999999px}"), room, api.ErrArg)
	}
	for _, room := range []int64{0, 1, top} {
		holdErr(t, "no page", measure.Scene{}, room, api.ErrArg)
		holdErr(t, "a page without boxes", measure.Scene{Doc: s.Doc, Styles: s.Styles, Table: s.Table}, room, api.ErrArg)
		holdErr(t, "a page", s, room, api.OK)
	}
	if got, _ := layout.Lay(s, top); got.Rects[0].W != top || got.Rects[1].W != top {
		t.Errorf("in the widest room: %v", got)
	}
}

// far is as much as a text can tell; 17 times that is less than the most, 18 times is more.
const far = "999999999px"

// many tells a text again and again.
func many(n int, s string) string { return strings.Repeat(s, n) }

// TestLayOver holds pages of which one number alone isn't exact, beside such as are alike, but for that number.
func TestLayOver(t *testing.T) {
	images := "img {width: " + far + "; height: 1px} "
	for _, c := range []struct {
		html, css string
		room      int64
		want      api.Errno
	}{
		// Widths.
		{"<p></p>", "p {width: 100%}", top, api.OK}, {"<p></p>", "p {width: 101%}", top, api.ErrOver}, {"<p></p>", "p {width: 10000%}", top / 100, api.OK}, {"<p></p>", "p {width: 10000%}", top, api.ErrOver}, {"<p><b></b></p>", "p, b {width: 10000%}", top / 10000, api.OK}, {"<p><b></b></p>", "p, b {width: 10000%}", top/10000 + 1, api.ErrOver},
		{"<p></p>", "p {margin-left: -1px}", top - 64, api.OK}, {"<p></p>", "p {margin-left: -1px}", top, api.ErrOver}, {"<p></p>", "p {margin: 0 1px 0 -1px}", top, api.OK},
		{"<p></p>", "p {width: 100%; padding-left: 1px}", top - 64, api.OK}, {"<p></p>", "p {width: 100%; padding-left: 1px}", top, api.ErrOver}, {"<p></p>", "p {width: 100%; padding-right: 1px}", top, api.ErrOver}, {"<p></p>", "p {width: 100%; border-left-width: 1px}", top, api.ErrOver}, {"<p></p>", "p {width: 100%; border-right-width: 1px}", top, api.ErrOver},
		// Where borders begin across.
		{"<p></p>", "p {width: 100%; margin: 0 1px 0 auto}", top, api.ErrOver}, {"<p></p>", "p {width: 100%; margin: 0 1px 0 auto}", top - 64, api.OK}, {"<p></p>", "p {width: 100%; margin: 0 1px 0 1px}", top, api.OK}, {"<p></p>", "p {width: 0; margin-left: auto}", top, api.OK}, {"<p></p>", "p {width: 0; margin: 0 -1px 0 auto}", top, api.ErrOver},
		{"<p></p>", "p {width: 0; margin-left: auto; left: 1px}", top, api.ErrOver}, {"<p></p>", "p {width: 0; margin-left: auto; left: 1px}", top - 64, api.OK}, {"<p></p>", "p {width: 0; margin-left: auto; left: -1px}", top, api.OK},
		// A border may end beyond the most, a fragment may not.
		{"<p></p>", "p {width: 5px; margin-left: auto; left: 3px}", top, api.OK}, {"<p>x</p>", "p {width: 8px; margin-left: auto}", top, api.OK}, {"<p>x</p>", "p {width: 7px; margin-left: auto}", top, api.ErrOver}, {"<p>x</p>", "p {width: 8px; margin-left: auto; left: 1px}", top, api.ErrOver}, {"<p><i></i></p>", "p {width: 5px; margin-left: auto; left: 3px}", top, api.OK},
		// Heights.
		{many(17, "<b></b>"), "b {height: " + far + "}", 9, api.OK}, {many(18, "<b></b>"), "b {height: " + far + "}", 9, api.ErrOver}, {"<p>" + many(18, "<b></b>") + "</p>", "p {height: 1px} b {height: " + far + "}", 9, api.ErrOver}, {many(17, "<b></b>"), "b {height: " + far + "; margin-bottom: 5px}", 9, api.OK}, {many(9, "<b></b>"), "b {height: " + far + "; margin-bottom: " + far + "}", 9, api.ErrOver}, {many(9, "<b></b>"), "b {height: " + far + "; padding-bottom: " + far + "}", 9, api.ErrOver},
		{"<p>" + many(17, "<b></b>") + "</p>", "p {padding-top: 1px} b {height: " + far + "}", 9, api.OK}, {"<p>" + many(17, "<b></b>") + "</p>", "p {padding-top: " + far + "} b {height: " + far + "}", 9, api.ErrOver}, {"<p>" + many(17, "<b></b>") + "</p>", "p {border-bottom-width: " + far + "} b {height: " + far + "}", 9, api.ErrOver},
		{many(17, "<b></b>") + "<p></p>", "p {top: 5px} b {height: " + far + "}", 9, api.OK}, {many(17, "<b></b>") + "<p></p>", "p {top: " + far + "} b {height: " + far + "}", 9, api.ErrOver}, {many(17, "<b></b>") + "<p></p>", "p {top: -" + far + "} b {height: " + far + "}", 9, api.OK},
		// Lines.
		{many(18, "<img>"), "img {width: 1px; height: " + far + "}", 128, api.OK}, {many(17, "<img>"), "img {width: 1px; height: " + far + "}", 0, api.OK}, {many(18, "<img>"), "img {width: 1px; height: " + far + "}", 0, api.ErrOver}, {many(18, "<img>"), "img {width: 1px; height: " + far + "}", top, api.OK}, {many(34, "x"), "root, p {font-size: 16px}", 9, api.OK}, {"<p>" + many(34, "x") + "</p>", "p {font-size: " + far + "}", 9, api.OK}, {"<p>" + many(35, "x") + "</p>", "p {font-size: " + far + "}", 9, api.ErrOver}, {many(18, "<img>"), images, top, api.ErrOver}, {many(18, "<img>"), images, top - 1, api.OK}, {many(17, "<img>"), images, top, api.OK},
		// Rows.
		{"<f>" + many(17, "<b></b>") + "</f>", "b {width: " + far + "}", 9, api.OK}, {"<f>" + many(18, "<b></b>") + "</f>", "b {width: " + far + "}", 9, api.ErrOver}, {"<f>" + many(18, "<b></b>") + "</f>", "b {width: 50%; padding-left: 1px}", 9, api.OK}, {"<f>" + many(9, "<b></b>") + "</f>", "b {width: " + far + "; margin-left: " + far + "}", 9, api.ErrOver}, {"<f><b></b></f>", "b {width: 10000%}", top, api.ErrOver}, {"<f><b></b></f>", "b {margin-top: " + far + "}", 9, api.OK},
		{"<f>" + many(2, "<b></b>") + "</f>", "b {width: 0; margin-left: 1px; flex-shrink: 0} f {justify-content: end}", top, api.OK}, {"<f><b></b><b></b></f>", "b {width: 100%}", top, api.ErrOver}, {"<f><b></b><b></b></f>", "b {width: 50%}", top, api.OK},
		{"<f><p>" + many(17, "<b></b>") + "</p></f>", "b {height: " + far + "} p {margin: " + far + " 0 -" + far + "}", 9, api.ErrOver}, {"<f><p>" + many(17, "<b></b>") + "</p></f>", "b {height: " + far + "} p {margin: -" + far + " 0 " + far + "}", 9, api.OK},
		{"<f>" + many(17, "<b></b>") + "<p></p></f>", "b {width: " + far + "; flex-shrink: 0} p {margin-left: -" + far + "; width: 0}", 9, api.OK},
		// Columns.
		{"<g>" + many(17, "<b></b>") + "</g>", "b {height: " + far + "}", 9, api.OK}, {"<g>" + many(18, "<b></b>") + "</g>", "b {height: " + far + "}", 9, api.ErrOver}, {"<g>" + many(18, "<b></b>") + "</g>", "g {height: 5px} b {height: " + far + "}", 9, api.ErrOver}, {"<g><b></b></g>", "b {width: 100%; margin: 0 1px 0 auto}", top, api.ErrOver},
		// Wishes, where they are asked.
		{"<p>" + many(20, "<img>") + "</p>", images, 9, api.OK}, {"<f>" + many(20, "<img>") + "</f>", images, 9, api.ErrOver}, {"<f><p>" + many(20, "<img>") + "</p></f>", images, 9, api.ErrOver}, {"<f><p>" + many(17, "<img>") + "</p></f>", images, 9, api.OK}, {"<g><p>" + many(20, "<img>") + "</p></g>", images, 9, api.OK}, {"<f><p>" + many(20, "<img>") + "</p></f>", images + "p {width: 5px}", 9, api.OK}, {"<f><p>" + many(20, "<img>") + "</p></f>", images + "p {width: 5%}", 9, api.OK},
		{"<f><b><p>" + many(20, "<img>") + "</p></b></f>", images, 9, api.ErrOver}, {"<f><b><p>" + many(20, "<img>") + "</p></b></f>", images + "p {width: 5px}", 9, api.OK}, {"<f><b><p>" + many(20, "<img>") + "</p></b></f>", images + "p {width: 5%}", 9, api.ErrOver}, {"<f><b><p>" + many(20, "<img>") + "</p></b></f>", images + "b {width: 5px}", 9, api.OK}, {"<f><f>" + many(20, "<b></b>") + "</f></f>", "b {width: 50%; padding-left: " + far + "}", 9, api.ErrOver}, {"<f><f>" + many(20, "<b></b>") + "</f></f>", "b {width: 50%}", 9, api.OK},
	} {
		holdErr(t, c.html+", "+c.css, scene(t, c.html, sorts+c.css), c.room, c.want)
	}
}

// Numbers that no text tells: sides across that aren't exact, where they are asked.
func TestLayOverOfFarSides(t *testing.T) {
	for html, want := range map[string]map[int64]api.Errno{
		"<p></p>": {0: api.OK}, "<f><p></p></f>": {0: api.ErrOver}, "<g><p></p></g>": {0: api.OK},
	} {
		s := scene(t, html, sorts+"p {width: 5px}")
		node := len(s.Doc) - 1
		s.Styles[node][value.MarginRight].N, s.Styles[node][value.PaddingLeft].N = top, 1
		for room, e := range want {
			holdErr(t, html, s, room, e)
		}
	}
	s := scene(t, "<p></p>", sorts)
	s.Styles[0][value.Width] = api.Value{Kind: api.Percent, N: 6400}
	holdErr(t, "a root as wide as the room", s, top, api.OK)
	s.Styles[0][value.Width].N++
	holdErr(t, "a root wider than the room", s, top, api.ErrOver)
	s.Styles[0][value.Width] = api.Value{Kind: api.Length, N: 640}
	s.Styles[0][value.MarginLeft].N, s.Styles[0][value.Left].N, s.Styles[0][value.PaddingLeft].N = 64, 64, 128
	if got, e := layout.Lay(s, 5); e != api.OK || got.Rects[0] != r(0, 0, 12, 0) || got.Rects[1] != r(2, 0, 10, 0) {
		t.Errorf("a root of 10 px: %v, %d", got, e)
	}
}

// P19.1: wishes that aren't exact

func TestWishOver(t *testing.T) {
	images := "img {width: " + far + "; height: 1px} "
	for _, c := range []struct {
		html, css string
		at        int
		want      int64
		exact     bool
	}{
		{many(17, "<img>"), images, 0, 17 * 63999999936, true}, {many(18, "<img>"), images, 0, top, false}, {"<p>" + many(18, "<img>") + "</p>", images, 0, top, false}, {"<p>" + many(18, "<img>") + "</p>", images, 1, top, false}, {"<p>" + many(18, "<img>") + "</p>", images + "p {width: 5px}", 0, 320, true}, {"<p>" + many(18, "<img>") + "</p>", images + "p {width: 5px}", 1, top, false}, {"<p>" + many(18, "<img>") + "</p>", images + "p {width: 5%}", 0, top, false}, {"<p>" + many(18, "<img>") + "</p>", images + "p {margin: 0 -1px}", 0, top - 128, false},
		{"<p>" + many(17, "<img>") + "</p>", images + "p {padding-left: " + far + "}", 0, top, false}, {"<p>" + many(17, "<img>") + "</p>", images + "p {padding-left: " + far + "}", 1, 17 * 63999999936, true}, {"<p>" + many(17, "<img>") + "</p>x", images + "p {padding-left: " + far + "; margin-left: -" + far + "}", 0, 17 * 63999999936, true},
		{"<f>" + many(17, "<b></b>") + "</f>", "b {width: " + far + "}", 1, 17 * 63999999936, true}, {"<f>" + many(18, "<b></b>") + "</f>", "b {width: " + far + "}", 1, top, false}, {"<g>" + many(18, "<b></b>") + "</g>", "b {width: " + far + "}", 1, 63999999936, true}, {"<f>" + many(18, "<b></b>") + "</f>", "b {margin-left: -" + far + "}", 1, -top, false}, {"<g>" + many(18, "<b></b>") + "</g>", "b {margin-left: -" + far + "}", 1, 0, true},
		// One that isn't exact is asked, even if another one is greater, or it is by itself.
		{"<p>" + many(35, "x") + "</p>", "p {font-size: " + far + "}", 1, top, false}, {"<p>" + many(18, "<img>") + "</p><b></b>", images + "b {width: 5px} p {margin-left: -" + far + "}", 0, top - 63999999936, false},
	} {
		s := scene(t, c.html, sorts+c.css)
		if n, is := layout.Wish(s, c.at); n != c.want || is != c.exact {
			t.Errorf("%q, %q: the wish of %d is %d, %v, want %d, %v", c.html, c.css, c.at, n, is, c.want, c.exact)
		}
	}
}
