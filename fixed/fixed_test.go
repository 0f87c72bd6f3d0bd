package fixed_test

import (
	"math"
	"testing"

	"scrim/api"
	"scrim/fixed"
)

const (
	top  = api.MostFixed
	part = 1 << 20 // the greatest num and den
)

// told is an answer: a number, and whether it is exact.
type told struct {
	n     int64
	exact bool
}

func answer(n int64, exact bool) told { return told{n, exact} }

// P1.1

func TestClamp(t *testing.T) {
	for _, c := range []struct {
		n    int64
		want told
	}{
		{0, told{0, true}},
		{1, told{1, true}},
		{-1, told{-1, true}},
		{12345, told{12345, true}},
		{top - 1, told{top - 1, true}},
		{top, told{top, true}},
		{top + 1, told{top, false}},
		{1 - top, told{1 - top, true}},
		{-top, told{-top, true}},
		{-top - 1, told{-top, false}},
		{math.MaxInt64, told{top, false}},
		{math.MinInt64, told{-top, false}},
	} {
		if got := answer(fixed.Clamp(c.n)); got != c.want {
			t.Errorf("Clamp(%d) = %v, want %v", c.n, got, c.want)
		}
	}
}

func TestAdd(t *testing.T) {
	for _, c := range []struct {
		a, b int64
		want told
	}{
		{0, 0, told{0, true}},
		{3, 4, told{7, true}},
		{3, -5, told{-2, true}},
		{top, 0, told{top, true}},
		{top, 1, told{top, false}},
		{top - 1, 1, told{top, true}},
		{-top, -1, told{-top, false}},
		{1 - top, -1, told{-top, true}},
		{top, -top, told{0, true}},
		{top, top, told{top, false}},
		{-top, -top, told{-top, false}},
		// The sum may be, but what is added may not.
		{top + 1, -1, told{top - 1, false}},
		{-top - 1, 1, told{1 - top, false}},
		{5, top + 5, told{top, false}},
		// These would wrap.
		{math.MaxInt64, math.MaxInt64, told{top, false}},
		{math.MaxInt64, 1, told{top, false}},
		{math.MinInt64, math.MinInt64, told{-top, false}},
		{math.MinInt64, -1, told{-top, false}},
		{math.MaxInt64, math.MinInt64, told{0, false}},
		{5, math.MinInt64, told{5 - top, false}},
	} {
		if got := answer(fixed.Add(c.a, c.b)); got != c.want {
			t.Errorf("Add(%d, %d) = %v, want %v", c.a, c.b, got, c.want)
		}
	}
}

func TestSub(t *testing.T) {
	for _, c := range []struct {
		a, b int64
		want told
	}{
		{0, 0, told{0, true}},
		{3, 4, told{-1, true}},
		{3, -5, told{8, true}},
		{top, 0, told{top, true}},
		{0, top, told{-top, true}},
		{top, -1, told{top, false}},
		{-top, 1, told{-top, false}},
		{1 - top, 1, told{-top, true}},
		{top, top, told{0, true}},
		{top, -top, told{top, false}},
		{-top, top, told{-top, false}},
		{top + 1, 1, told{top - 1, false}},
		{-top - 1, -1, told{1 - top, false}},
		// What is taken off counts as MostFixed, ahead of the sign.
		{1, math.MaxInt64, told{1 - top, false}},
		{5, math.MinInt64, told{top, false}},
		{-5, math.MinInt64, told{top - 5, false}},
		{0, math.MinInt64, told{top, false}},
		{math.MinInt64, math.MinInt64, told{0, false}},
		{math.MinInt64, 1, told{-top, false}},
		{math.MaxInt64, -1, told{top, false}},
	} {
		if got := answer(fixed.Sub(c.a, c.b)); got != c.want {
			t.Errorf("Sub(%d, %d) = %v, want %v", c.a, c.b, got, c.want)
		}
	}
}

func TestSum(t *testing.T) {
	for _, c := range []struct {
		l    []int64
		want told
	}{
		{nil, told{0, true}},
		{[]int64{}, told{0, true}},
		{[]int64{7}, told{7, true}},
		{[]int64{5, -7}, told{-2, true}},
		{[]int64{1, 2, 3, 4}, told{10, true}},
		{[]int64{top, 0}, told{top, true}},
		// In order: what was too great on the way is cut there, and stays not exact.
		{[]int64{top, 1, -1}, told{top - 1, false}},
		{[]int64{top, -1, 1}, told{top, true}},
		{[]int64{-top, -1, 1}, told{1 - top, false}},
		{[]int64{-top, 1, -1}, told{-top, true}},
		{[]int64{1, top, -top, -1}, told{-1, false}},
		{[]int64{top, top, -top, -top}, told{-top, false}},
		// A number that may not be counts as the nearest one, wherever it stands.
		{[]int64{top + 5}, told{top, false}},
		{[]int64{-top - 5, 3}, told{3 - top, false}},
		{[]int64{-1, top + 1, -1}, told{top - 2, false}},
		{[]int64{math.MaxInt64, math.MinInt64}, told{0, false}},
		{[]int64{math.MinInt64, math.MinInt64, top, 2}, told{2, false}},
	} {
		if got := answer(fixed.Sum(c.l)); got != c.want {
			t.Errorf("Sum(%d) = %v, want %v", c.l, got, c.want)
		}
	}
}

func TestSumOfMany(t *testing.T) {
	many := make([]int64, 100000)
	for i := range many {
		many[i] = int64(i)
	}
	if got, want := answer(fixed.Sum(many)), (told{4999950000, true}); got != want {
		t.Errorf("Sum of 0 to 99999 = %v, want %v", got, want)
	}
}

func TestSumKeepsItsList(t *testing.T) {
	l := []int64{math.MaxInt64, 3, math.MinInt64, -4}
	first := answer(fixed.Sum(l))
	if want := [4]int64{math.MaxInt64, 3, math.MinInt64, -4}; [4]int64(l) != want {
		t.Errorf("the list is now %d, want %d", l, want)
	}
	if again := answer(fixed.Sum(l)); again != first {
		t.Errorf("asked again: %v, at first %v", again, first)
	}
}

func TestPx(t *testing.T) {
	for _, c := range []struct {
		pixels int64
		want   told
	}{
		{0, told{0, true}},
		{1, told{64, true}},
		{5, told{320, true}},
		{-3, told{-192, true}},
		{top / 64, told{top, true}},
		{top/64 - 1, told{top - 64, true}},
		{top/64 + 1, told{top, false}},
		{-top / 64, told{-top, true}},
		{-top/64 - 1, told{-top, false}},
		{top, told{top, false}},
		{-top, told{-top, false}},
		{top + 1, told{top, false}},
		{-top - 1, told{-top, false}},
		// These, times 64, would wrap to something that may be.
		{1 << 58, told{top, false}},
		{1<<58 + 1, told{top, false}},
		{math.MaxInt64, told{top, false}},
		{math.MinInt64, told{-top, false}},
	} {
		if got := answer(fixed.Px(c.pixels)); got != c.want {
			t.Errorf("Px(%d) = %v, want %v", c.pixels, got, c.want)
		}
	}
}

// P1.2

func TestMul(t *testing.T) {
	for _, c := range []struct {
		a, b int64
		want told
	}{
		{96, 32, told{48, true}},
		{-96, 32, told{-48, true}},
		{96, -32, told{-48, true}},
		{-96, -32, told{48, true}},
		{64, 64, told{64, true}},
		{0, 0, told{0, true}},
		{0, -5, told{0, true}},
		// Towards 0, also below it; what is cut off there doesn't make it less exact.
		{1, 1, told{0, true}},
		{-1, 1, told{0, true}},
		{-1, 63, told{0, true}},
		{65, 63, told{63, true}},
		{-65, 63, told{-63, true}},
		{-65, -63, told{63, true}},
		// The ends.
		{top, 0, told{0, true}},
		{top, 1, told{top / 64, true}},
		{top, 64, told{top, true}},
		{top, -64, told{-top, true}},
		{-top, 64, told{-top, true}},
		{-top, -64, told{top, true}},
		{top, 65, told{top, false}},
		{-top, 65, told{-top, false}},
		{-top, -65, told{top, false}},
		{1 << 23, 1 << 23, told{top, true}},
		{1<<23 + 1, 1 << 23, told{top, false}},
		// 65 times this is 2^46 and 16: beyond the end by less than a unit, which is cut off.
		{65, (1<<46 + 16) / 65, told{top, true}},
		{-65, (1<<46 + 16) / 65, told{-top, true}},
		// Products of 64 bits and more.
		{1 << 32, 1 << 31, told{top, false}},
		{1 << 32, 1 << 32, told{top, false}},
		{1 << 35, 1 << 35, told{top, false}},
		{1<<32 + 1, -1 << 32, told{-top, false}},
		{top, top, told{top, false}},
		{top, -top, told{-top, false}},
		{-top, -top, told{top, false}},
		// What may not be counts as the nearest one, and isn't exact.
		{top + 1, 1, told{top / 64, false}},
		{top + 1, 0, told{0, false}},
		{0, -top - 1, told{0, false}},
		{math.MaxInt64, 1, told{top / 64, false}},
		{math.MinInt64, 1, told{-top / 64, false}},
		{math.MinInt64, math.MinInt64, told{top, false}},
		{math.MinInt64, math.MaxInt64, told{-top, false}},
		{math.MinInt64, -1, told{top / 64, false}},
	} {
		if got := answer(fixed.Mul(c.a, c.b)); got != c.want {
			t.Errorf("Mul(%d, %d) = %v, want %v", c.a, c.b, got, c.want)
		}
	}
}

func TestPart(t *testing.T) {
	for _, c := range []struct {
		a, num, den int64
		want        told
	}{
		{10, 1, 4, told{2, true}},
		{10, 9, 4, told{22, true}},
		{10, 0, 4, told{0, true}},
		{10, 4, 4, told{10, true}},
		{0, 3, 4, told{0, true}},
		{1 << 30, 3, 4, told{3 << 28, true}},
		// Towards 0, also below it.
		{-10, 1, 4, told{-2, true}},
		{11, 1, 4, told{2, true}},
		{-11, 1, 4, told{-2, true}},
		{-1, 3, 4, told{0, true}},
		// a times num is what is parted: not a's part by den, times num.
		{3, 2, 4, told{1, true}},
		// The ends.
		{top, 1, 1, told{top, true}},
		{top, part, part, told{top, true}},
		{-top, part, part, told{-top, true}},
		{top, 1, part, told{part, true}},
		{top, part - 1, part, told{top - part, true}},
		{top, 0, part, told{0, true}},
		{top, 2, 1, told{top, false}},
		{-top, 3, 2, told{-top, false}},
		{top, part, part - 1, told{top, false}},
		{top, part, 1, told{top, false}},
		{-top, part, 1, told{-top, false}},
		{part, part, 1, told{top, true}},
		{part + 1, part, 1, told{top, false}},
		// 5 times this is 2^42 and 1: beyond the end by less than a unit, which is cut off.
		{(1<<42 + 1) / 5, 5, 4, told{top, true}},
		// No such part.
		{10, -1, 4, told{0, false}},
		{10, part + 1, 4, told{0, false}},
		{10, 1, 0, told{0, false}},
		{10, 0, 0, told{0, false}},
		{10, 1, -1, told{0, false}},
		{-10, -1, -4, told{0, false}},
		{10, 1, part + 1, told{0, false}},
		{10, math.MinInt64, 4, told{0, false}},
		{10, math.MaxInt64, 4, told{0, false}},
		{10, 1, math.MinInt64, told{0, false}},
		{10, 1, math.MaxInt64, told{0, false}},
		{math.MinInt64, 1, -1, told{0, false}},
		{top + 1, 1, 0, told{0, false}},
		// What may not be counts as the nearest one, and isn't exact.
		{top + 1, 1, 2, told{top / 2, false}},
		{-top - 1, 1, 2, told{-top / 2, false}},
		{top + 1, 0, 2, told{0, false}},
		{math.MaxInt64, 1, part, told{part, false}},
		{math.MinInt64, part, part, told{-top, false}},
	} {
		if got := answer(fixed.Part(c.a, c.num, c.den)); got != c.want {
			t.Errorf("Part(%d, %d, %d) = %v, want %v", c.a, c.num, c.den, got, c.want)
		}
	}
}
