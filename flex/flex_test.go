package flex_test

import (
	"math"
	"slices"
	"testing"

	"scrim/api"
	"scrim/flex"
	"scrim/value"
)

const (
	top  = api.MostFixed
	unit = api.Unit
)

func item(base, extra, grow, shrink int64) flex.Item {
	return flex.Item{Base: base, Extra: extra, Grow: grow, Shrink: shrink}
}

func items(l ...flex.Item) []flex.Item { return l }

func numbers(l ...int64) []int64 { return l }

// holdShare holds how a room is shared, and that the items stay.
func holdShare(t *testing.T, l []flex.Item, room int64, exact bool, want ...int64) {
	t.Helper()
	kept := slices.Clone(l)
	got, is := flex.Share(l, room)
	if !slices.Equal(got, want) || is != exact {
		t.Errorf("Share(%v, %d): %v, %v, want %v, %v", l, room, got, is, want, exact)
	}
	if !slices.Equal(l, kept) {
		t.Errorf("items are now %v, were %v", l, kept)
	}
}

// P18.1

func TestShareOfNone(t *testing.T) {
	for _, room := range []int64{-top, -1, 0, 1, 640, top} {
		holdShare(t, nil, room, true)
		holdShare(t, items(), room, true)
	}
	holdShare(t, nil, top+1, false)
	holdShare(t, nil, math.MinInt64, false)
}

func TestShareGrows(t *testing.T) {
	one := items(item(20, 0, unit, unit))
	for room, want := range map[int64]int64{20: 20, 21: 21, 100: 100, top: top} {
		holdShare(t, one, room, true, want)
	}
	l := items(item(20, 0, unit, unit), item(30, 0, unit, unit))
	for room, want := range map[int64][]int64{50: {20, 30}, 51: {20, 30}, 52: {21, 31}, 100: {45, 55}, 101: {45, 55}} {
		holdShare(t, l, room, true, want...)
	}
	// By their weights, towards 0.
	holdShare(t, items(item(20, 5, unit, 0), item(30, 5, 2*unit, 0)), 100, true, 33, 56)
	holdShare(t, items(item(0, 0, unit, 0), item(0, 0, 0, 0), item(0, 0, 3*unit, 0)), 102, true, 25, 0, 76)
	holdShare(t, items(item(1, 0, 50, 0), item(2, 0, 50, 0), item(3, 0, 100, 0)), 26, true, 6, 7, 13)
	// What doesn't grow is as long as its Base.
	holdShare(t, items(item(20, 0, 0, unit), item(30, 0, 0, unit)), 100, true, 20, 30)
	holdShare(t, items(item(20, 0, 0, unit), item(30, 0, 1, unit)), 114, true, 20, 31)
	// Extras take room, and aren't told.
	holdShare(t, items(item(20, 7, unit, 0), item(30, 3, unit, 0)), 100, true, 40, 50)
	holdShare(t, items(item(0, 100, unit, 0)), 100, true, 0)
	// How they shrink doesn't matter.
	holdShare(t, items(item(20, 0, unit, 0), item(30, 0, unit, 6400)), 100, true, 45, 55)
	// The greatest of numbers.
	holdShare(t, items(item(0, 0, 6400, 0), item(0, 0, 6400, 0)), top, true, top/2, top/2)
	holdShare(t, items(item(top, 0, unit, 0)), top, true, top)
	holdShare(t, items(item(0, top, unit, unit)), top, true, 0)
	holdShare(t, items(item(0, 0, unit, 0), item(5, 0, 0, 0)), top, true, top-5, 5)
}

// Weights that are less than a whole, together, take a part of what is over.
func TestShareByLessThanAWhole(t *testing.T) {
	for grow, want := range map[int64]int64{0: 20, 1: 21, 16: 40, 32: 60, 63: 98, 64: 100, 65: 100, 6400: 100} {
		holdShare(t, items(item(20, 0, grow, 0)), 100, true, want)
		holdShare(t, items(item(100, 0, 0, grow)), 20, true, 120-want)
	}
	holdShare(t, items(item(20, 0, 16, 0), item(20, 0, 16, 0)), 104, true, 36, 36)
	holdShare(t, items(item(20, 0, 31, 0), item(20, 0, 32, 0)), 104, true, 51, 52)
	holdShare(t, items(item(20, 0, 31, 0), item(20, 0, 33, 0)), 104, true, 51, 53)
	holdShare(t, items(item(20, 0, 31, 0), item(20, 0, 34, 0)), 104, true, 50, 53)
	holdShare(t, items(item(50, 0, 0, 16), item(50, 0, 0, 16)), 36, true, 34, 34)
	holdShare(t, items(item(50, 0, 0, 31), item(50, 0, 0, 34)), 36, true, 20, 17)
}

func TestShareShrinks(t *testing.T) {
	l := items(item(20, 0, unit, unit), item(30, 0, unit, unit))
	for room, want := range map[int64][]int64{50: {20, 30}, 49: {20, 30}, 48: {19, 29}, 40: {15, 25}, 11: {1, 11}, 10: {0, 10}, 9: {0, 10}} {
		holdShare(t, l, room, true, want...)
	}
	holdShare(t, items(item(20, 0, 0, 0), item(30, 0, 0, unit)), 40, true, 20, 20)
	holdShare(t, items(item(20, 0, 0, unit), item(30, 0, 0, 3*unit)), 30, true, 15, 15)
	holdShare(t, items(item(20, 0, unit, 0), item(30, 0, 6400, unit)), 40, true, 20, 20)
	holdShare(t, items(item(10, 30, 0, unit)), 20, true, 0)
	holdShare(t, items(item(30, 10, 0, unit)), 20, true, 10)
	// None shrinks: they are as long as their Bases.
	holdShare(t, items(item(20, 0, unit, 0), item(30, 0, unit, 0)), 0, true, 20, 30)
	holdShare(t, items(item(20, 5, unit, 0)), 25-top, true, 20)
	holdShare(t, items(item(0, 0, 0, unit), item(0, 0, 0, unit)), -1, true, 0, 0)
}

// What would be below 0 is frozen, and what it had left to give is asked of the others.
func TestShareFreezes(t *testing.T) {
	holdShare(t, items(item(10, 0, 0, 9*unit), item(100, 0, 0, unit)), 50, true, 0, 50)
	holdShare(t, items(item(20, 0, 0, 0), item(30, 0, 0, unit)), 10, true, 20, 0)
	holdShare(t, items(item(20, 0, 0, 0), item(30, 0, 0, unit), item(0, 5, 0, 0)), 5, true, 20, 0, 0)
	// One after another.
	holdShare(t, items(item(4, 0, 0, 640), item(12, 0, 0, 320), item(100, 0, 0, 64)), 96, true, 0, 0, 96)
	holdShare(t, items(item(1, 0, 0, unit), item(10, 0, 0, unit), item(12, 0, 0, unit), item(100, 0, 0, unit)), 82, true, 0, 0, 0, 82)
	holdShare(t, items(item(1, 0, 0, unit), item(18, 0, 0, unit), item(25, 0, 0, unit)), 10, true, 0, 2, 9)
	// A size of 0 isn't below 0: it isn't frozen.
	holdShare(t, items(item(10, 0, 0, unit), item(20, 0, 0, unit)), 10, true, 0, 10)
	// All are.
	holdShare(t, items(item(10, 0, 0, unit), item(10, 0, 0, unit)), -100, true, 0, 0)
	holdShare(t, items(item(10, 5, 0, unit), item(30, 6, 0, unit)), 10, true, 0, 0)
	holdShare(t, items(item(10, 0, 0, unit)), 10-top, true, 0)
	// What is frozen keeps its Extra.
	holdShare(t, items(item(10, 20, 0, 9*unit), item(100, 10, 0, unit)), 80, true, 0, 50)
	// Those that don't shrink aren't frozen, nor are others by weights below a whole.
	holdShare(t, items(item(10, 0, 0, 32), item(100, 0, 0, 0)), 60, true, 0, 100)
	holdShare(t, items(item(30, 0, 0, 32), item(100, 0, 0, 0)), 80, true, 5, 100)
	holdShare(t, items(item(5, 0, 0, 60), item(100, 0, 0, 4)), 50, true, 0, 97)
}

func TestShareCountsNumbers(t *testing.T) {
	holdShare(t, items(item(-5, -5, -5, -5)), 20, true, 0)
	holdShare(t, items(item(-5, 3, unit, 0), item(10, -7, unit, 0)), 33, true, 10, 20)
	holdShare(t, items(item(math.MinInt64, math.MinInt64, math.MinInt64, math.MinInt64), item(0, 0, unit, 0)), 20, true, 0, 20)
	holdShare(t, items(item(top+1, 0, 0, 0)), top, true, top)
	holdShare(t, items(item(0, top+1, unit, 0)), top, true, 0)
	holdShare(t, items(item(math.MaxInt64, -1, math.MaxInt64, math.MaxInt64)), top, true, top)
	holdShare(t, items(item(math.MaxInt64, 0, 0, math.MaxInt64)), 9, true, 9)
	holdShare(t, items(item(5, math.MaxInt64, 0, 0)), top, false, 5)
	// A Grow, or a Shrink, above 6400 counts as that.
	holdShare(t, items(item(0, 0, 9999, 0), item(0, 0, 6400, 0)), 21, true, 10, 10)
	holdShare(t, items(item(0, 0, 6401, 0), item(0, 0, 6399, 0)), 12799, true, 6400, 6399)
	holdShare(t, items(item(50, 0, 0, 9999), item(50, 0, 0, 6400)), 79, true, 40, 40)
	holdShare(t, items(item(50, 0, 0, math.MaxInt64), item(50, 0, 0, 3200)), 70, true, 30, 40)
	// Below 0 they count as 0, and take nothing off the others.
	holdShare(t, items(item(10, 0, -unit, 0), item(10, 0, unit, 0)), 50, true, 10, 40)
	holdShare(t, items(item(30, 0, 0, -unit), item(30, 0, 0, unit)), 50, true, 30, 20)
}

func TestShareOfMany(t *testing.T) {
	l := slices.Repeat(items(item(1, 1, 6400, 6400)), 100)
	holdShare(t, l, 500, true, slices.Repeat(numbers(4), 100)...)
	holdShare(t, l, 150, true, slices.Repeat(numbers(1), 100)...)
	holdShare(t, l, 100, true, slices.Repeat(numbers(0), 100)...)
	holdShare(t, l[:99], 500, true, slices.Repeat(numbers(4), 99)...)
	holdShare(t, append(l, item(1, 1, 1, 1)), 500, false)
	holdShare(t, make([]flex.Item, 101), 0, false)
	holdShare(t, make([]flex.Item, 100), 0, true, make([]int64, 100)...)
	holdShare(t, make([]flex.Item, 100000), 0, false)
	// Each round freezes one: of the least Base first.
	var rising []flex.Item
	want := make([]int64, 100)
	for at := range 100 {
		rising = append(rising, item(int64(1)<<(at/3), 0, 0, unit))
	}
	want[99] = 5
	holdShare(t, rising, 5, true, want...)
}

func TestShareOfWhatIsNotExact(t *testing.T) {
	holdShare(t, items(item(top, 0, 0, unit), item(top, 0, 0, unit)), top, false, top, top)
	holdShare(t, items(item(top, 1, 0, unit)), top, false, top)
	holdShare(t, items(item(20, 5, unit, 0)), -top, false, 20)
	holdShare(t, items(item(10, 0, 0, unit)), -top, false, 0)
	holdShare(t, items(item(5, 0, unit, 0)), top+1, false, top)
	holdShare(t, items(item(5, 0, 0, unit)), -top-1, false, 0)
	holdShare(t, items(item(top, 0, 0, unit)), -1, false, 0)
	holdShare(t, items(item(top, 0, 0, unit)), 0, true, 0)
	holdShare(t, items(item(top-1, 0, 0, 0)), -1, true, top-1)
	holdShare(t, items(item(top-1, 0, 0, 0)), -2, false, top-1)
	holdShare(t, items(item(top, 0, 0, unit), item(100, 0, 0, 0)), 50, false, 50, 100)
	// Of what is frozen later, too: the first rest isn't exact, the next one is.
	holdShare(t, items(item(top, 0, 0, unit), item(1, 0, 0, unit)), top-10, false, top-10, 0)
	holdShare(t, items(item(0, 0, 0, 0), item(top, 0, 0, unit), item(7, 0, 0, 0)), 0, false, 0, 0, 7)
	// What frozen ones weigh is no more asked, however many times what the others weigh it is.
	holdShare(t, items(item(3, 0, 0, 6400), item(top-5, 0, 0, 1)), 9, true, 0, top-5-(top-5-9)/64)
	holdShare(t, items(item(1, 0, 0, 6400), item(top-3, 0, 0, 6400), item(1, 0, 0, 0)), 1, true, 0, 0, 1)
}

// P18.2

// holdJustify holds where items begin, and that how long they are stays.
func holdJustify(t *testing.T, long []int64, room, how int64, exact bool, want ...int64) {
	t.Helper()
	kept := slices.Clone(long)
	got, is := flex.Justify(long, room, how)
	if !slices.Equal(got, want) || is != exact {
		t.Errorf("Justify(%v, %d, %d): %v, %v, want %v, %v", long, room, how, got, is, want, exact)
	}
	if !slices.Equal(long, kept) {
		t.Errorf("numbers are now %v, were %v", long, kept)
	}
}

func TestJustify(t *testing.T) {
	l := numbers(10, 20, 30)
	for _, how := range []int64{value.Start, 4, 5, -1, 1<<32 + 1, math.MinInt64, math.MaxInt64} {
		for _, room := range []int64{-5, 0, 59, 60, 61, 71, top} {
			holdJustify(t, l, room, how, true, 0, 10, 30)
		}
	}
	for room, half := range map[int64]int64{71: 5, 70: 5, 69: 4, 61: 0, 60: 0, 59: 0, 0: 0, -71: 0, top: top/2 - 30} {
		holdJustify(t, l, room, value.Middle, true, half, half+10, half+30)
	}
	for room, all := range map[int64]int64{71: 11, 70: 10, 61: 1, 60: 0, 59: 0, 0: 0, -71: 0, top: top - 60} {
		holdJustify(t, l, room, value.End, true, all, all+10, all+30)
	}
	for room, each := range map[int64]int64{71: 5, 70: 5, 69: 4, 62: 1, 61: 0, 60: 0, 59: 0, -71: 0, top: top/2 - 30} {
		holdJustify(t, l, room, value.Between, true, 0, 10+each, 30+2*each)
	}
	holdJustify(t, numbers(1, 2, 3, 4), 20, value.Between, true, 0, 4, 9, 15)
	holdJustify(t, numbers(1, 2), 20, value.Between, true, 0, 18)
}

func TestJustifyOfFew(t *testing.T) {
	for how := int64(-1); how < 5; how++ {
		for _, room := range []int64{-top, -1, 0, 20, top} {
			holdJustify(t, nil, room, how, true)
			holdJustify(t, numbers(), room, how, true)
		}
		holdJustify(t, numbers(10), 10, how, true, 0)
		holdJustify(t, numbers(10), 9, how, true, 0)
		holdJustify(t, numbers(0, 0, 0), 0, how, true, 0, 0, 0)
		holdJustify(t, nil, top+1, how, false)
	}
	holdJustify(t, numbers(10), 21, value.Start, true, 0)
	holdJustify(t, numbers(10), 21, value.Middle, true, 5)
	holdJustify(t, numbers(10), 21, value.End, true, 11)
	holdJustify(t, numbers(10), 21, value.Between, true, 0)
	holdJustify(t, numbers(0), top, value.Between, true, 0)
	holdJustify(t, numbers(0, 0), top, value.Between, true, 0, top)
	holdJustify(t, numbers(0, 0), top, value.End, true, top, top)
}

// Items that are less than nothing long.
func TestJustifyOfNumbersBelow0(t *testing.T) {
	holdJustify(t, numbers(-10, 20), 20, value.Start, true, 0, -10)
	holdJustify(t, numbers(-10, 20), 20, value.Middle, true, 5, -5)
	holdJustify(t, numbers(-10, 20), 20, value.End, true, 10, 0)
	holdJustify(t, numbers(-10, 20), 20, value.Between, true, 0, 0)
	holdJustify(t, numbers(-10, -20), -30, value.End, true, 0, -10)
	holdJustify(t, numbers(-10, -20), -31, value.End, true, 0, -10)
	holdJustify(t, numbers(-10, -20), -29, value.End, true, 1, -9)
}

func TestJustifyOfWhatIsNotExact(t *testing.T) {
	for _, how := range []int64{value.Start, value.Middle, value.End, value.Between, 9} {
		holdJustify(t, numbers(top, 1), top, how, false, 0, top)
		holdJustify(t, numbers(top, 1, 1), 5, how, false, 0, top, top)
		holdJustify(t, numbers(top+1), top, how, false, 0)
		holdJustify(t, numbers(top, 0), top, how, true, 0, top)
		holdJustify(t, numbers(math.MaxInt64, 0), 5, how, false, 0, top)
		holdJustify(t, numbers(top), -1, how, false, 0)
		holdJustify(t, numbers(top), 0, how, true, 0)
		holdJustify(t, numbers(0, 5), math.MinInt64, how, false, 0, 0)
	}
	// Where the sum is exact, what stands moved may not be; and the other way round.
	holdJustify(t, numbers(top, -top, 0), top, value.Start, true, 0, top, 0)
	holdJustify(t, numbers(top, -top, 0), top, value.End, false, top, top, 0)
	holdJustify(t, numbers(top, -top, 0), top, value.Between, false, 0, top, top/2)
	holdJustify(t, numbers(0, top, -top), top, value.Between, false, 0, top/2, top)
	holdJustify(t, numbers(-5), top, value.Start, false, 0)
	holdJustify(t, numbers(-5), top, value.End, false, top)
	holdJustify(t, numbers(5), top+1, value.End, false, top-5)
	// Behind the last one nothing is between.
	holdJustify(t, numbers(0, top-3), top, value.Between, true, 0, 3)
	holdJustify(t, numbers(1, 1, 1), top, value.Between, true, 0, 1+(top-3)/2, 2+(top-3)/2*2)
}

// P18.3

func TestOrder(t *testing.T) {
	for _, c := range []struct {
		l    []int64
		want []int
	}{
		{nil, nil}, {numbers(), nil}, {numbers(5), []int{0}}, {numbers(1, 2, 3), []int{0, 1, 2}}, {numbers(3, 2, 1), []int{2, 1, 0}}, {numbers(2, 1, 2, 1), []int{1, 3, 0, 2}}, {numbers(0, 0, 0, 0), []int{0, 1, 2, 3}}, {numbers(0, -1, 0, -1, 1, 0), []int{1, 3, 0, 2, 5, 4}}, {numbers(math.MaxInt64, math.MinInt64, 0, math.MinInt64, math.MaxInt64), []int{1, 3, 2, 0, 4}}, {numbers(1<<40, 1<<40-1, 1<<40+1, -1<<40), []int{3, 1, 0, 2}},
	} {
		kept := slices.Clone(c.l)
		if got := flex.Order(c.l); !slices.Equal(got, c.want) {
			t.Errorf("Order of %v is %v, want %v", c.l, got, c.want)
		}
		if !slices.Equal(c.l, kept) {
			t.Errorf("numbers are now %v, were %v", c.l, kept)
		}
	}
}

func TestOrderOfMany(t *testing.T) {
	var l []int64
	for at := range 100000 {
		l = append(l, int64(at%3))
	}
	for i, at := range flex.Order(l) {
		if want := (i%33334)*3 + i/33334; i < 33334 && at != want {
			t.Fatalf("the place of %d is %d, want %d", i, at, want)
		}
	}
}
