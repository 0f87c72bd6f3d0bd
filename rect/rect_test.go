package rect_test

import (
	"math"
	"slices"
	"testing"

	"scrim/api"
	"scrim/rect"
)

const top = api.MostFixed

func r(x, y, w, h int64) api.Rect { return api.Rect{X: x, Y: y, W: w, H: h} }

// told is an answer: a place, and whether it is exact, or there.
type told struct {
	r  api.Rect
	is bool
}

func answer(r api.Rect, is bool) told { return told{r, is} }

// wrong are places that may not be, each for one reason.
func wrong() []api.Rect {
	return []api.Rect{
		r(top+1, 0, 1, 1), r(-top-1, 0, 1, 1), r(0, top+1, 1, 1), r(0, -top-1, 1, 1),
		r(0, 0, top+1, 1), r(0, 0, 1, top+1), r(0, 0, -1, 1), r(0, 0, 1, -1),
		r(0, 0, -top, 1), r(0, 0, 1, -top), r(0, 0, -top-1, 1), r(0, 0, 1, -top-1),
		r(math.MaxInt64, 0, 1, 1), r(math.MinInt64, 0, 1, 1), r(0, math.MaxInt64, 1, 1), r(0, math.MinInt64, 1, 1),
		r(0, 0, math.MaxInt64, 1), r(0, 0, math.MinInt64, 1), r(0, 0, 1, math.MaxInt64), r(0, 0, 1, math.MinInt64),
	}
}

// P2.1

func TestMay(t *testing.T) {
	for _, c := range []api.Rect{
		r(0, 0, 0, 0), r(1, 2, 3, 4), r(-1, -2, 3, 4),
		r(top, top, top, top), r(-top, -top, top, top), r(top, -top, 0, 0), r(0, 0, top, 0), r(0, 0, 0, top),
	} {
		if !rect.May(c) {
			t.Errorf("May(%v) is false", c)
		}
	}
	for _, c := range wrong() {
		if rect.May(c) {
			t.Errorf("May(%v) is true", c)
		}
	}
}

func TestHas(t *testing.T) {
	for _, c := range []struct {
		r    api.Rect
		x, y int64
		want bool
	}{
		{r(2, 3, 4, 5), 2, 3, true},
		{r(2, 3, 4, 5), 4, 5, true},
		{r(2, 3, 4, 5), 1, 3, false},
		{r(2, 3, 4, 5), 2, 2, false},
		{r(2, 3, 4, 5), 5, 3, true},
		{r(2, 3, 4, 5), 6, 3, false},
		{r(2, 3, 4, 5), 2, 7, true},
		{r(2, 3, 4, 5), 2, 8, false},
		{r(-2, -3, 2, 3), -1, -1, true},
		{r(-2, -3, 2, 3), 0, -1, false},
		{r(-2, -3, 2, 3), -1, 0, false},
		// Nothing is in what has no width or no height.
		{r(2, 3, 0, 5), 2, 3, false},
		{r(2, 3, 4, 0), 2, 3, false},
		{r(0, 0, 0, 0), 0, 0, false},
		// Beyond MostFixed a place goes on, as far as X and W.
		{r(top, 0, top, 1), top, 0, true},
		{r(top, 0, top, 1), 2*top - 1, 0, true},
		{r(top, 0, top, 1), 2 * top, 0, false},
		{r(0, top, 1, top), 0, 2*top - 1, true},
		{r(0, top, 1, top), 0, 2 * top, false},
		{r(-top, -top, 1, 1), -top, -top, true},
		{r(-top, 0, top, 1), -1, 0, true},
		// The greatest and the least numbers.
		{r(top, top, top, top), math.MaxInt64, top, false},
		{r(top, top, top, top), top, math.MaxInt64, false},
		{r(-top, -top, top, top), math.MinInt64, -top, false},
		{r(-top, -top, top, top), -top, math.MinInt64, false},
		{r(-top, 0, 1, 1), math.MaxInt64, 0, false},
		{r(top, 0, top, 1), math.MinInt64, 0, false},
	} {
		if got := rect.Has(c.r, c.x, c.y); got != c.want {
			t.Errorf("Has(%v, %d, %d) = %v", c.r, c.x, c.y, got)
		}
	}
}

func TestWrongPlacesHaveNoPoint(t *testing.T) {
	for _, c := range append(wrong(), r(top+1, 0, 5, 5), r(0, 0, top+1, top+1)) {
		if rect.Has(c, c.X, c.Y) || rect.Has(c, 0, 0) {
			t.Errorf("%v has a point", c)
		}
	}
}

func TestMove(t *testing.T) {
	for _, c := range []struct {
		r    api.Rect
		x, y int64
		want told
	}{
		{r(2, 3, 4, 5), 0, 0, told{r(2, 3, 4, 5), true}},
		{r(2, 3, 4, 5), -2, 10, told{r(0, 13, 4, 5), true}},
		{r(2, 3, 0, 0), 1, 1, told{r(3, 4, 0, 0), true}},
		{r(top-1, 0, top, 1), 1, 0, told{r(top, 0, top, 1), true}},
		{r(top, 0, 4, 5), 1, -3, told{r(top, -3, 4, 5), false}},
		{r(0, top, 4, 5), -3, 1, told{r(-3, top, 4, 5), false}},
		{r(-top, 0, 4, 5), -1, 2, told{r(-top, 2, 4, 5), false}},
		{r(0, -top, 4, 5), 2, -1, told{r(2, -top, 4, 5), false}},
		{r(top, top, 4, 5), 1, 1, told{r(top, top, 4, 5), false}},
		// What may not be counts as the nearest one, and isn't exact.
		{r(-1, 0, 4, 5), top + 1, 0, told{r(top-1, 0, 4, 5), false}},
		{r(0, 1, 4, 5), 0, -top - 1, told{r(0, 1-top, 4, 5), false}},
		{r(2, 3, 4, 5), math.MaxInt64, 0, told{r(top, 3, 4, 5), false}},
		{r(2, 3, 4, 5), 0, math.MinInt64, told{r(2, 3-top, 4, 5), false}},
		{r(-2, 3, 4, 5), math.MinInt64, math.MaxInt64, told{r(-top, top, 4, 5), false}},
	} {
		if got := answer(rect.Move(c.r, c.x, c.y)); got != c.want {
			t.Errorf("Move(%v, %d, %d) = %v, want %v", c.r, c.x, c.y, got, c.want)
		}
	}
	for _, c := range wrong() {
		if got := answer(rect.Move(c, 1, 1)); got != (told{}) {
			t.Errorf("Move(%v, 1, 1) = %v", c, got)
		}
	}
}

func TestInset(t *testing.T) {
	for _, c := range []struct {
		r                        api.Rect
		top, right, bottom, left int64
		want                     told
	}{
		{r(5, 5, 10, 10), 0, 0, 0, 0, told{r(5, 5, 10, 10), true}},
		{r(5, 5, 10, 10), 1, 2, 3, 4, told{r(9, 6, 4, 6), true}},
		{r(5, 5, 10, 10), -1, -2, -3, -4, told{r(1, 4, 16, 14), true}},
		// W and H of 0, and below.
		{r(0, 0, 10, 10), 5, 5, 5, 5, told{r(5, 5, 0, 0), true}},
		{r(0, 0, 10, 10), 5, 6, 5, 5, told{r(5, 5, 0, 0), false}},
		{r(0, 0, 10, 10), 5, 5, 5, 6, told{r(6, 5, 0, 0), false}},
		{r(0, 0, 10, 10), 6, 5, 5, 5, told{r(5, 6, 0, 0), false}},
		{r(0, 0, 10, 10), 5, 5, 6, 5, told{r(5, 5, 0, 0), false}},
		{r(0, 0, 10, 10), 0, 99, 0, 0, told{r(0, 0, 0, 10), false}},
		{r(0, 0, 0, 0), 0, 0, 0, 0, told{r(0, 0, 0, 0), true}},
		{r(0, 0, 0, 0), 1, 0, 0, 0, told{r(0, 1, 0, 0), false}},
		// Below 0 on the way isn't below 0 at the end.
		{r(0, 0, 10, 10), 15, -10, -10, 15, told{r(15, 15, 5, 5), true}},
		// The ends.
		{r(0, 0, top, top), top, 0, 0, top, told{r(top, top, 0, 0), true}},
		{r(top, 0, 10, 10), 0, 0, 0, 1, told{r(top, 0, 9, 10), false}},
		{r(0, top, 10, 10), 1, 0, 0, 0, told{r(0, top, 10, 9), false}},
		{r(-top, 0, 10, 10), 0, 0, 0, -1, told{r(-top, 0, 11, 10), false}},
		{r(0, -top, 10, 10), -1, 0, 0, 0, told{r(0, -top, 10, 11), false}},
		{r(0, 0, top, 10), 0, -1, 0, 0, told{r(0, 0, top, 10), false}},
		{r(0, 0, 10, top), 0, 0, -1, 0, told{r(0, 0, 10, top), false}},
		// Left goes ahead of right, and top ahead of bottom: what is cut between stays so.
		{r(0, 0, top, 10), 0, 1, 0, -1, told{r(-1, 0, top-1, 10), false}},
		{r(0, 0, 10, top), -1, 0, 1, 0, told{r(0, -1, 10, top-1), false}},
		{r(0, 0, top, 10), 0, -1, 0, 1, told{r(1, 0, top, 10), true}},
		{r(0, 0, 10, top), 1, 0, -1, 0, told{r(0, 1, 10, top), true}},
		// What may not be counts as the nearest one, and isn't exact.
		{r(0, 0, 10, 10), top + 1, 0, 0, 0, told{r(0, top, 10, 0), false}},
		{r(0, 0, top, 10), 0, top + 1, 0, 0, told{r(0, 0, 0, 10), false}},
		{r(0, 0, 10, top), 0, 0, top + 1, 0, told{r(0, 0, 10, 0), false}},
		{r(0, 0, top, 10), 0, 0, 0, top + 1, told{r(top, 0, 0, 10), false}},
		{r(0, 0, 10, 10), math.MinInt64, math.MinInt64, math.MaxInt64, math.MaxInt64, told{r(top, -top, 10, 0), false}},
		{r(0, 0, 10, 10), math.MaxInt64, math.MaxInt64, math.MinInt64, math.MinInt64, told{r(-top, top, 0, 10), false}},
	} {
		if got := answer(rect.Inset(c.r, c.top, c.right, c.bottom, c.left)); got != c.want {
			t.Errorf("Inset(%v, %d, %d, %d, %d) = %v, want %v", c.r, c.top, c.right, c.bottom, c.left, got, c.want)
		}
	}
	for _, c := range wrong() {
		if got := answer(rect.Inset(c, 0, 0, 0, 0)); got != (told{}) {
			t.Errorf("Inset(%v) by nothing = %v", c, got)
		}
	}
}

// P2.2

func TestUnion(t *testing.T) {
	for _, c := range []struct {
		l    []api.Rect
		want told
	}{
		{nil, told{r(0, 0, 0, 0), true}},
		{[]api.Rect{}, told{r(0, 0, 0, 0), true}},
		{[]api.Rect{r(2, 3, 4, 5)}, told{r(2, 3, 4, 5), true}},
		{[]api.Rect{r(-2, -3, 0, 0)}, told{r(-2, -3, 0, 0), true}},
		{[]api.Rect{r(2, 3, 4, 5), r(-1, 6, 2, 9)}, told{r(-1, 3, 7, 12), true}},
		{[]api.Rect{r(2, 3, 4, 5), r(3, 4, 1, 1)}, told{r(2, 3, 4, 5), true}},
		// A place without a point counts, too.
		{[]api.Rect{r(0, 0, 0, 0), r(7, 8, 0, 0)}, told{r(0, 0, 7, 8), true}},
		{[]api.Rect{r(5, 5, 1, 1), r(9, 0, 0, 3), r(-4, 6, 2, 0)}, told{r(-4, 0, 13, 6), true}},
		{[]api.Rect{r(1, 0, 1, 1), r(2, 0, 1, 1), r(3, 0, 1, 1), r(0, 0, 1, 1), r(0, 9, 1, 1)}, told{r(0, 0, 4, 10), true}},
		// The ends.
		{[]api.Rect{r(0, 0, top, top)}, told{r(0, 0, top, top), true}},
		{[]api.Rect{r(-top, -top, top, top)}, told{r(-top, -top, top, top), true}},
		{[]api.Rect{r(top, top, 0, 0)}, told{r(top, top, 0, 0), true}},
		// Far ends that aren't exact, whether or not they are the greatest.
		{[]api.Rect{r(top, 0, 1, 1)}, told{r(top, 0, 0, 1), false}},
		{[]api.Rect{r(0, top, 1, 1)}, told{r(0, top, 1, 0), false}},
		{[]api.Rect{r(1, 1, top, top)}, told{r(1, 1, top-1, top-1), false}},
		{[]api.Rect{r(top, 0, 1, 1), r(0, 0, 1, 1)}, told{r(0, 0, top, 1), false}},
		{[]api.Rect{r(0, 0, 1, 1), r(0, top, 1, 1)}, told{r(0, 0, 1, top), false}},
		// W or H that isn't exact, of far ends that are.
		{[]api.Rect{r(-1, 0, 1, 1), r(top, 0, 0, 1)}, told{r(-1, 0, top, 1), false}},
		{[]api.Rect{r(0, -1, 1, 1), r(0, top, 1, 0)}, told{r(0, -1, 1, top), false}},
		{[]api.Rect{r(-top, 0, 1, 1), r(top, 0, 0, 1)}, told{r(-top, 0, top, 1), false}},
	} {
		if got := answer(rect.Union(c.l...)); got != c.want {
			t.Errorf("Union(%v) = %v, want %v", c.l, got, c.want)
		}
	}
	for _, c := range wrong() {
		for _, l := range [][]api.Rect{{c}, {c, r(0, 0, 1, 1)}, {r(0, 0, 1, 1), c}, {r(0, 0, 1, 1), c, r(0, 0, 2, 2)}} {
			if got := answer(rect.Union(l...)); got != (told{}) {
				t.Errorf("Union(%v) = %v", l, got)
			}
		}
	}
}

func TestUnionKeepsItsList(t *testing.T) {
	l := []api.Rect{r(2, 3, 4, 5), r(-1, 6, 2, 9), r(top, 0, 1, 1)}
	was := slices.Clone(l)
	first := answer(rect.Union(l...))
	if !slices.Equal(l, was) {
		t.Errorf("the list is now %v, want %v", l, was)
	}
	if again := answer(rect.Union(l...)); again != first {
		t.Errorf("asked again: %v, at first %v", again, first)
	}
}

func TestMeet(t *testing.T) {
	for _, c := range []struct {
		a, b api.Rect
		want told
	}{
		{r(0, 0, 10, 10), r(5, 5, 10, 10), told{r(5, 5, 5, 5), true}},
		{r(0, 0, 10, 10), r(2, 3, 4, 5), told{r(2, 3, 4, 5), true}},
		{r(0, 0, 10, 10), r(0, 0, 10, 10), told{r(0, 0, 10, 10), true}},
		{r(0, 0, 10, 10), r(-5, 4, 30, 2), told{r(0, 4, 10, 2), true}},
		{r(0, 0, 10, 10), r(9, 9, 9, 9), told{r(9, 9, 1, 1), true}},
		// Places that touch, and that are apart.
		{r(0, 0, 10, 10), r(10, 0, 5, 5), told{}},
		{r(0, 0, 10, 10), r(0, 10, 5, 5), told{}},
		{r(0, 0, 10, 10), r(10, 10, 5, 5), told{}},
		{r(0, 0, 10, 10), r(11, 0, 5, 5), told{}},
		{r(0, 0, 10, 10), r(0, -9, 5, 5), told{}},
		{r(0, 0, 10, 10), r(20, 20, 5, 5), told{}},
		// Places that have no point.
		{r(0, 0, 10, 10), r(3, 3, 0, 5), told{}},
		{r(0, 0, 10, 10), r(3, 3, 5, 0), told{}},
		{r(3, 3, 0, 0), r(3, 3, 0, 0), told{}},
		// The ends.
		{r(-top, -top, top, top), r(-1, -1, top, top), told{r(-1, -1, 1, 1), true}},
		{r(0, 0, top, top), r(top, 0, 1, 1), told{}},
		// Far ends that aren't exact.
		{r(top-1, 0, top, 1), r(top, 0, top, 1), told{r(top, 0, top-1, 1), true}},
		{r(0, top-1, 1, top), r(0, top, 1, top), told{r(0, top, 1, top-1), true}},
		{r(top, top, top, top), r(top, top, top, top), told{r(top, top, top, top), true}},
		{r(top, 0, 1, 1), r(top, 0, top, 1), told{r(top, 0, 1, 1), true}},
	} {
		if got := answer(rect.Meet(c.a, c.b)); got != c.want {
			t.Errorf("Meet(%v, %v) = %v, want %v", c.a, c.b, got, c.want)
		}
		if got := answer(rect.Meet(c.b, c.a)); got != c.want {
			t.Errorf("Meet(%v, %v) = %v, want %v", c.b, c.a, got, c.want)
		}
	}
	for _, c := range wrong() {
		for _, other := range []api.Rect{r(0, 0, 10, 10), r(top, top, top, top), c} {
			if got := answer(rect.Meet(c, other)); got != (told{}) {
				t.Errorf("Meet(%v, %v) = %v", c, other, got)
			}
			if got := answer(rect.Meet(other, c)); got != (told{}) {
				t.Errorf("Meet(%v, %v) = %v", other, c, got)
			}
		}
	}
}
