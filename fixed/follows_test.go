package fixed_test

import (
	"math"
	"math/big"
	"slices"
	"testing"

	"scrim/api"
	"scrim/fixed"
)

// steps are numbers of every size: each power of 2, and those beside it, of either sign, and some that aren't round; rising.
func steps() []int64 {
	l := []int64{0, math.MinInt64, math.MaxInt64, 65, (1<<46 + 16) / 65, (1<<42 + 1) / 5, 1234567891, -987654321}
	for k := range 63 {
		for _, n := range []int64{1<<k - 1, 1 << k, 1<<k + 1, 3 << k >> 1} {
			l = append(l, n, -n)
		}
	}
	slices.Sort(l)
	return slices.Compact(l)
}

// most is what a great number counts as, and whether it is that.
func most(n *big.Int) told {
	end := big.NewInt(api.MostFixed)
	if n.CmpAbs(end) <= 0 {
		return told{n.Int64(), true}
	}
	return told{int64(n.Sign()) * api.MostFixed, false}
}

// whole is what the document says of two numbers, worked out by numbers that have no end.
func whole(a, b int64, do func(z, a, b *big.Int)) told {
	x, y := most(big.NewInt(a)), most(big.NewInt(b))
	z := new(big.Int)
	do(z, big.NewInt(x.n), big.NewInt(y.n))
	out := most(z)
	return told{out.n, out.exact && x.exact && y.exact}
}

func mayBe(n int64) bool { return -api.MostFixed <= n && n <= api.MostFixed }

func TestAllAsByNumbersWithoutEnd(t *testing.T) {
	unit := big.NewInt(api.Unit)
	calls := []struct {
		name string
		call func(a, b int64) (int64, bool)
		want func(z, a, b *big.Int)
	}{
		{"Add", fixed.Add, func(z, a, b *big.Int) { z.Add(a, b) }},
		{"Sub", fixed.Sub, func(z, a, b *big.Int) { z.Sub(a, b) }},
		{"Mul", fixed.Mul, func(z, a, b *big.Int) { z.Quo(z.Mul(a, b), unit) }},
	}
	l := steps()
	for _, c := range calls {
		for _, a := range l {
			for _, b := range l {
				got, want := answer(c.call(a, b)), whole(a, b, c.want)
				if got != want || !mayBe(got.n) {
					t.Fatalf("%s(%d, %d) = %v, want %v", c.name, a, b, got, want)
				}
			}
		}
	}
	for _, a := range l {
		if got, want := answer(fixed.Clamp(a)), most(big.NewInt(a)); got != want {
			t.Fatalf("Clamp(%d) = %v, want %v", a, got, want)
		}
		want := whole(a, api.Unit, func(z, a, b *big.Int) { z.Mul(a, b) })
		if got := answer(fixed.Px(a)); got != want {
			t.Fatalf("Px(%d) = %v, want %v", a, got, want)
		}
	}
}

func TestPartAsByNumbersWithoutEnd(t *testing.T) {
	edges := []int64{math.MinInt64, -part, -1, 0, 1, 2, 3, 5, 63, 64, 65, 999, part - 1, part, part + 1, top, math.MaxInt64}
	for _, a := range steps() {
		for _, num := range edges {
			for _, den := range edges {
				want := told{}
				if 0 <= num && num <= part && 1 <= den && den <= part {
					want = whole(a, num, func(z, a, b *big.Int) { z.Quo(z.Mul(a, b), big.NewInt(den)) })
				}
				got := answer(fixed.Part(a, num, den))
				if got != want || !mayBe(got.n) {
					t.Fatalf("Part(%d, %d, %d) = %v, want %v", a, num, den, got, want)
				}
			}
		}
	}
}

func TestSumIsAddOfEachInOrder(t *testing.T) {
	edges := []int64{math.MinInt64, -top - 1, -top, -1, 0, 1, 64, top - 1, top, top + 1, math.MaxInt64}
	n := len(edges)
	for at := range n * n * n * n {
		l := []int64{edges[at%n], edges[at/n%n], edges[at/n/n%n], edges[at/n/n/n]}
		want := told{0, true}
		for _, x := range l {
			next := whole(want.n, x, func(z, a, b *big.Int) { z.Add(a, b) })
			want = told{next.n, next.exact && want.exact}
		}
		if got := answer(fixed.Sum(l)); got != want || !mayBe(got.n) {
			t.Fatalf("Sum(%d) = %v, want %v", l, got, want)
		}
	}
}

// P1.3

func TestSumsAndProductsGoEitherWay(t *testing.T) {
	l := steps()
	for _, a := range l {
		for _, b := range l {
			if one, two := answer(fixed.Add(a, b)), answer(fixed.Add(b, a)); one != two {
				t.Fatalf("Add of %d and %d: %v, turned %v", a, b, one, two)
			}
			if one, two := answer(fixed.Mul(a, b)), answer(fixed.Mul(b, a)); one != two {
				t.Fatalf("Mul of %d and %d: %v, turned %v", a, b, one, two)
			}
		}
	}
}

func TestGreaterNumberTellsNoLesserSum(t *testing.T) {
	l := steps()
	for _, b := range l {
		for i, a := range l[1:] {
			less, _ := fixed.Add(l[i], b)
			more, _ := fixed.Add(a, b)
			if more < less {
				t.Fatalf("with %d: %d tells %d, but %d tells %d", b, l[i], less, a, more)
			}
			less, _ = fixed.Sum([]int64{b, l[i], -b / 2})
			more, _ = fixed.Sum([]int64{b, a, -b / 2})
			if more < less {
				t.Fatalf("in a list about %d: %d tells %d, but %d tells %d", b, l[i], less, a, more)
			}
		}
	}
}

func TestPartsOfAWholeLackLessThanAUnitEach(t *testing.T) {
	splits := [][]int64{
		{1}, {1, 1}, {1, 1, 1}, {1, 2, 4}, {0, 5, 0}, {7, 1, 1, 1, 1, 3},
		{part - 1, 1}, {part / 2, part/2 - 1, 1}, {64, 64, 64}, {6400, 1},
	}
	for _, nums := range splits {
		den := int64(0)
		for _, n := range nums {
			den += n
		}
		for _, a := range steps() {
			if !mayBe(a) {
				continue
			}
			lack := a
			for _, num := range nums {
				n, exact := fixed.Part(a, num, den)
				if !exact || (a >= 0) != (n >= 0) && n != 0 {
					t.Fatalf("Part(%d, %d, %d) = %d, %v", a, num, den, n, exact)
				}
				lack -= n
			}
			if a < 0 {
				lack = -lack
			}
			if lack < 0 || lack >= int64(len(nums)) {
				t.Fatalf("%d by %d lacks %d units", a, nums, lack)
			}
		}
	}
}

func TestSameCallsAnswerTheSame(t *testing.T) {
	round := func() []told {
		return []told{
			answer(fixed.Clamp(top + 1)), answer(fixed.Add(2, 3)), answer(fixed.Add(top, top)),
			answer(fixed.Sub(2, 3)), answer(fixed.Mul(96, 32)), answer(fixed.Mul(top, top)),
			answer(fixed.Part(10, 1, 0)), answer(fixed.Part(10, 1, 4)), answer(fixed.Sum([]int64{top, 1, -1})),
			answer(fixed.Sum(nil)), answer(fixed.Px(5)), answer(fixed.Px(math.MinInt64)),
		}
	}
	first := round()
	for range 3 {
		if again := round(); !slices.Equal(again, first) {
			t.Fatalf("%v, at first %v", again, first)
		}
	}
}
