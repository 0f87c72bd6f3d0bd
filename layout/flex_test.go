package layout_test

import (
	"slices"
	"testing"

	"scrim/api"
	"scrim/layout"
	"scrim/value"
)

// P19.2: rows

func TestLayRowsThatGrow(t *testing.T) {
	// As wide as they wish, and what is over for those that grow.
	check(t, "<f><b>ab</b><b>c</b></f>", "", 100, 16, r(0, 0, 100, 16), r(0, 0, 16, 16), r(0, 0, 16, 16), r(16, 0, 8, 16), r(16, 0, 8, 16))
	check(t, "<f><i>a</i><i>bb</i></f>", "i {flex-grow: 1; margin-left: 1px}", 100, 16, r(0, 0, 100, 16), r(1, 0, 45, 16), r(1, 0, 8, 16), r(47, 0, 53, 16), r(47, 0, 16, 16))
	check(t, "<f><b></b><p></p></f>", "b {flex-grow: 1} p {flex-grow: 3; height: 5px}", 100, 5, r(0, 0, 100, 5), r(0, 0, 25, 0), r(25, 0, 75, 5))
	check(t, "<f><b></b><p></p></f>", "b {flex-grow: 0.5} p {width: 50px}", 100, 0, r(0, 0, 100, 0), r(0, 0, 25, 0), r(25, 0, 50, 0))
	// Widths: a Length, a percentage of the row, and what a box that grows has about it.
	check(t, "<f><b></b><p></p></f>", "f {padding: 0 10px} b {width: 30px; padding: 1px} p {width: 25%; margin: 2px 3px 4px; border-width: 5px}", 100, 16, r(0, 0, 100, 16), r(10, 0, 32, 2), r(45, 2, 30, 10))
	check(t, "<f><b></b><p></p></f>", "b {width: 30px; padding: 1px; flex-grow: 1} p {width: 25%; margin: 2px 4px 4px 3px; flex-grow: 1}", 100, 6, r(0, 0, 100, 6), r(0, 0, 50, 2), r(53, 2, 43, 0))
	// A Width that is told is no wish of what stands in it.
	check(t, "<f><b>abc</b><p></p></f>", "b {width: 0} p {width: 1px}", 100, 16, r(0, 0, 100, 16), r(0, 0, 0, 16), r(0, 0, 24, 16), r(0, 0, 1, 0))
}

func TestLayRowsThatShrink(t *testing.T) {
	check(t, "<f><b></b><p></p></f>", "b, p {width: 60px}", 100, 0, r(0, 0, 100, 0), r(0, 0, 50, 0), r(50, 0, 50, 0))
	check(t, "<f><b></b><p></p></f>", "b, p {width: 60px} b {flex-shrink: 3}", 100, 0, r(0, 0, 100, 0), r(0, 0, 45, 0), r(45, 0, 55, 0))
	check(t, "<f><b></b><p></p></f>", "b, p {width: 60px; flex-shrink: 0}", 100, 0, r(0, 0, 100, 0), r(0, 0, 60, 0), r(60, 0, 60, 0))
	check(t, "<f><b></b><p></p></f>", "b {width: 5px} p {width: 200px}", 100, 0, r(0, 0, 100, 0), r(0, 0, 0, 0), r(0, 0, 100, 0))
	// Lines are filled in what a box gets.
	check(t, "<f><b>ab cd</b><p></p></f>", "b {flex-shrink: 1} p {width: 84px; flex-shrink: 0}", 100, 32, r(0, 0, 100, 32), r(0, 0, 16, 32), r(0, 0, 16, 32), r(16, 0, 84, 0))
	// What stands about a box does not shrink.
	check(t, "<f><b></b></f>", "b {width: 60px; padding: 0 30px; margin: 0 5px}", 100, 0, r(0, 0, 100, 0), r(5, 0, 90, 0))
	check(t, "<f><b></b></f>", "b {width: 60px; padding: 0 70px}", 100, 0, r(0, 0, 100, 0), r(0, 0, 140, 0))
}

func TestLayRowsJustified(t *testing.T) {
	const css = "b {width: 10px; height: 1px} p {width: 20px; height: 2px} f {justify-content: "
	for how, at := range map[string][2]int64{"start": {0, 10}, "center": {35, 45}, "end": {70, 80}, "between": {0, 80}} {
		check(t, "<f><b></b><p></p></f>", css+how+"}", 100, 2, r(0, 0, 100, 2), r(at[0], 0, 10, 1), r(at[1], 0, 20, 2))
		check(t, "<f><b></b><p></p></f>", css+how+"; padding: 0 3px}", 106, 2, r(0, 0, 106, 2), r(3+at[0], 0, 10, 1), r(3+at[1], 0, 20, 2))
	}
	for how, at := range map[string][3]int64{"start": {0, 10, 30}, "center": {32, 42, 62}, "end": {64, 74, 94}, "between": {0, 42, 94}} {
		check(t, "<f><b></b><p></p><i></i></f>", css+how+"} i {width: 6px}", 100, 2, r(0, 0, 100, 2), r(at[0], 0, 10, 1), r(at[1], 0, 20, 2), r(at[2], 0, 6, 0))
	}
	// Margins are a box's own: it begins behind its left one.
	check(t, "<f><b></b><p></p></f>", css+"end} b, p {margin: 4px 1px 3px 2px}", 100, 9, r(0, 0, 100, 9), r(66, 4, 10, 1), r(79, 4, 20, 2))
	check(t, "<f><b></b><p></p></f>", css+"between} b, p {margin: 0 auto}", 100, 2, r(0, 0, 100, 2), r(0, 0, 10, 1), r(80, 0, 20, 2))
}

func TestLayRowsInOrder(t *testing.T) {
	const css = "b {width: 10px; height: 1px} p {width: 20px; height: 2px} i {width: 30px; height: 3px} "
	check(t, "<f><b></b><p></p><i></i></f>", css, 100, 3, r(0, 0, 100, 3), r(0, 0, 10, 1), r(10, 0, 20, 2), r(30, 0, 30, 3))
	check(t, "<f><b></b><p></p><i></i></f>", css+"b {order: 1}", 100, 3, r(0, 0, 100, 3), r(50, 0, 10, 1), r(0, 0, 20, 2), r(20, 0, 30, 3))
	check(t, "<f><b></b><p></p><i></i></f>", css+"i {order: -1}", 100, 3, r(0, 0, 100, 3), r(30, 0, 10, 1), r(40, 0, 20, 2), r(0, 0, 30, 3))
	check(t, "<f><b></b><p></p><i></i></f>", css+"b {order: 2} p {order: 1} i {order: 1}", 100, 3, r(0, 0, 100, 3), r(50, 0, 10, 1), r(0, 0, 20, 2), r(20, 0, 30, 3))
	check(t, "<f><b></b>x<p></p></f>", css+"b {order: 0.5} p {order: -0.5}", 100, 16, r(0, 0, 100, 16), r(28, 0, 10, 1), r(20, 0, 8, 16), r(20, 0, 8, 16), r(0, 0, 20, 2))
	// Fragments are told box by box, not as they stand.
	s := scene(t, "<f><b>b</b><p>p</p></f>", sorts+"b {order: 1}")
	got, e := layout.Lay(s, 6400)
	if want := []layout.Frag{{Box: 3, Text: "b", Rect: r(8, 0, 8, 16)}, {Box: 5, Text: "p", Rect: r(0, 0, 8, 16)}}; e != api.OK || !slices.Equal(got.Frags, want) {
		t.Errorf("fragments %v, want %v", got.Frags, want)
	}
	// Blocks don't stand by their Orders.
	check(t, "<p></p><b></b>", "p {order: 1; height: 1px}", 100, 1, r(0, 0, 100, 1), r(0, 1, 100, 0))
}

func TestLayRowsHeights(t *testing.T) {
	const css = "b {width: 10px; height: 9px} p {width: 20px; height: 2px; margin: 3px 0 -1px; padding: 2px 0 1px; border-width: 1px 0} "
	check(t, "<f><b></b><p></p></f>", css, 100, 9, r(0, 0, 100, 9), r(0, 0, 10, 9), r(10, 3, 20, 7))
	check(t, "<f><b></b><p></p></f>", css+"p {margin: 3px 0 0}", 100, 10, r(0, 0, 100, 10), r(0, 0, 10, 9), r(10, 3, 20, 7))
	check(t, "<f><b></b><p></p></f>", css+"f {height: 50px}", 100, 50, r(0, 0, 100, 50), r(0, 0, 10, 9), r(10, 3, 20, 7))
	check(t, "<f><b></b><p></p></f>", css+"f {height: 0; padding: 1px 0}", 100, 2, r(0, 0, 100, 2), r(0, 1, 10, 9), r(10, 4, 20, 7))
	// 0 at least; margins down that are auto are 0.
	check(t, "<f><b></b></f>", "b {margin-top: -30px; height: 5px}", 100, 0, r(0, 0, 100, 0), r(0, -30, 0, 5))
	check(t, "<f><b></b></f>", "b {margin: auto; height: 5px}", 100, 5, r(0, 0, 100, 5), r(0, 0, 0, 5))
}

func TestLayRowsMoved(t *testing.T) {
	check(t, "<f><b>x</b><p></p></f>", "b {left: 3px; top: -4px} p {width: 5px}", 100, 16, r(0, 0, 100, 16), r(3, -4, 8, 16), r(3, -4, 8, 16), r(8, 0, 5, 0))
	// Less than nothing about a box: it counts as nothing where room is shared, and as it is where others begin.
	check(t, "<f><b></b><p></p></f>", "b {width: 10px; margin-left: -30px} p {width: 5px; flex-grow: 1}", 100, 0, r(0, 0, 100, 0), r(-30, 0, 10, 0), r(-20, 0, 90, 0))
	check(t, "<f><b></b><p></p></f>", "b {width: 10px; margin-right: -4px} p {width: 5px} f {justify-content: end}", 100, 0, r(0, 0, 100, 0), r(89, 0, 10, 0), r(95, 0, 5, 0))
}

func TestLayRowsInRows(t *testing.T) {
	check(t, "<f><f><b>ab</b><b>c</b></f><p>d</p></f>", "b {padding: 0 1px}", 100, 16, r(0, 0, 100, 16), r(0, 0, 28, 16), r(0, 0, 18, 16), r(1, 0, 16, 16), r(18, 0, 10, 16), r(19, 0, 8, 16), r(28, 0, 8, 16), r(28, 0, 8, 16))
	check(t, "<f><g><b>ab</b><b>c</b></g><p>d</p></f>", "b {padding: 0 1px}", 100, 32, r(0, 0, 100, 32), r(0, 0, 18, 32), r(0, 0, 18, 16), r(1, 0, 16, 16), r(0, 16, 18, 16), r(1, 16, 8, 16), r(18, 0, 8, 16), r(18, 0, 8, 16))
	check(t, "<f><p><b>abc</b>d</p></f>", "p {flex-grow: 1; padding: 1px}", 100, 34, r(0, 0, 100, 34), r(0, 0, 100, 34), r(1, 1, 98, 16), r(1, 1, 24, 16), r(1, 17, 98, 16), r(1, 17, 8, 16))
}

// P19.2: columns

func TestLayColumns(t *testing.T) {
	// Margins do not meet.
	check(t, "<g><b>a</b><b>b</b></g>", "b {margin: 1px 2px 3px 4px; padding: 1px}", 100, 44, r(0, 0, 100, 44), r(4, 1, 94, 18), r(5, 2, 8, 16), r(4, 23, 94, 18), r(5, 24, 8, 16))
	// Across they stand as a Block's kids.
	check(t, "<g><b></b><p></p></g>", "b {width: 50%; height: 1px; margin: 0 auto} p {width: 10px; margin-left: auto}", 100, 1, r(0, 0, 100, 1), r(25, 0, 50, 1), r(90, 1, 10, 0))
	check(t, "<g><b>ab c</b></g>", "b {flex-grow: 1; flex-shrink: 1}", 30, 32, r(0, 0, 30, 32), r(0, 0, 30, 32), r(0, 0, 16, 32))
	check(t, "<g><b></b><p></p></g>", "g {padding: 1px 2px} b, p {height: 3px}", 100, 8, r(0, 0, 100, 8), r(2, 1, 96, 3), r(2, 4, 96, 3))
	check(t, "<g>ab<i>c</i></g>", "", 100, 32, r(0, 0, 100, 32), r(0, 0, 100, 16), r(0, 0, 16, 16), r(0, 16, 100, 16), r(0, 16, 8, 16))
	// They are as high as all, 0 at least.
	check(t, "<g><b></b><p></p></g>", "b {height: 5px; margin-bottom: -3px} p {height: 4px}", 100, 6, r(0, 0, 100, 6), r(0, 0, 100, 5), r(0, 2, 100, 4))
	check(t, "<g><b></b><p></p></g>", "b {height: 5px; margin-bottom: -30px} p {height: 4px}", 100, 0, r(0, 0, 100, 0), r(0, 0, 100, 5), r(0, -25, 100, 4))
	check(t, "<g><b></b><p></p></g>", "b {height: 5px; margin: auto; left: 7px; top: -1px} p {height: 4px}", 100, 9, r(0, 0, 100, 9), r(7, -1, 100, 5), r(0, 5, 100, 4))
}

func TestLayColumnsJustified(t *testing.T) {
	const css = "b {height: 10px} p {height: 20px; margin: 1px 0 2px} g {justify-content: "
	for how, at := range map[string][2]int64{"start": {0, 11}, "center": {33, 44}, "end": {67, 78}, "between": {0, 78}} {
		below := int64(0)
		if how == "center" {
			below = 32
		}
		first, second := r(0, at[0], 50, 10), r(0, at[1], 50, 20)
		first.Y, second.Y = first.Y+below, second.Y+below
		check(t, "<g><b></b><p></p></g>", css+how+"; height: 100px}", 50, 100, r(0, 0, 50, 100), first, second)
		// With no Height that is a Length there is nothing over; with a lesser one, too.
		check(t, "<g><b></b><p></p></g>", css+how+"}", 50, 33, r(0, 0, 50, 33), r(0, 0, 50, 10), r(0, 11, 50, 20))
		check(t, "<g><b></b><p></p></g>", css+how+"; height: 50%}", 50, 33, r(0, 0, 50, 33), r(0, 0, 50, 10), r(0, 11, 50, 20))
		check(t, "<g><b></b><p></p></g>", css+how+"; height: 20px}", 50, 20, r(0, 0, 50, 20), r(0, 0, 50, 10), r(0, 11, 50, 20))
	}
	check(t, "<g><b></b></g>", css+"between; height: 100px}", 50, 100, r(0, 0, 50, 100), r(0, 0, 50, 10))
	check(t, "<g></g>", css+"between; height: 100px}", 50, 100, r(0, 0, 50, 100))
	check(t, "<g><b></b><p></p></g>", "b {margin-top: -30px} g {justify-content: end}", 50, 0, r(0, 0, 50, 0), r(0, -30, 50, 0), r(0, -30, 50, 0))
}

func TestLayColumnsInOrder(t *testing.T) {
	const css = "b {height: 1px} p {height: 2px} i {height: 3px; width: 3px} "
	check(t, "<g><b></b><p></p><i></i></g>", css, 9, 6, r(0, 0, 9, 6), r(0, 0, 9, 1), r(0, 1, 9, 2), r(0, 3, 3, 3))
	check(t, "<g><b></b><p></p><i></i></g>", css+"b {order: 1}", 9, 6, r(0, 0, 9, 6), r(0, 5, 9, 1), r(0, 0, 9, 2), r(0, 2, 3, 3))
	check(t, "<g><b></b><p></p><i></i></g>", css+"b {order: 2} p {order: 1}", 9, 6, r(0, 0, 9, 6), r(0, 5, 9, 1), r(0, 3, 9, 2), r(0, 0, 3, 3))
}

// Words of properties are told by their numbers alone; a direction that is none is no row.
func TestLayFlexesOfNoWord(t *testing.T) {
	s := scene(t, "<f><b></b><b></b></f>", sorts+"b {width: 5px; height: 5px}")
	s.Styles[1][value.Justify].N = 4
	if got, e := layout.Lay(s, 6400); e != api.OK || !slices.Equal(got.Rects, []api.Rect{r(0, 0, 100, 5), r(0, 0, 100, 5), r(0, 0, 5, 5), r(5, 0, 5, 5)}) {
		t.Errorf("justified by no word: %v, %d", got, e)
	}
	s.Styles[1][value.Direction].N = value.Column
	if got, e := layout.Lay(s, 6400); e != api.OK || !slices.Equal(got.Rects, []api.Rect{r(0, 0, 100, 10), r(0, 0, 100, 10), r(0, 0, 5, 5), r(0, 5, 5, 5)}) {
		t.Errorf("a column: %v, %d", got, e)
	}
}
