package rect_test

import (
	"math"
	"testing"

	"scrim/api"
	"scrim/rect"
)

// P2.3

// spread are places from one number of starts, and one of sizes, in either direction.
func spread(starts, sizes []int64) []api.Rect {
	var l []api.Rect
	for _, x := range starts {
		for _, y := range starts {
			for _, w := range sizes {
				for _, h := range sizes {
					l = append(l, r(x, y, w, h))
				}
			}
		}
	}
	return l
}

// far are places at the ends, some of which may not be.
func far() []api.Rect {
	return append(wrong(), spread([]int64{-top, -1, top - 2, top}, []int64{0, 1, 3, top})...)
}

// pointsOf are the corners of places, and what is beside them.
func pointsOf(l ...api.Rect) [][2]int64 {
	var points [][2]int64
	for _, p := range l {
		for _, x := range []int64{p.X - 1, p.X, p.X + p.W - 1, p.X + p.W} {
			for _, y := range []int64{p.Y - 1, p.Y, p.Y + p.H - 1, p.Y + p.H} {
				points = append(points, [2]int64{x, y})
			}
		}
	}
	return points
}

func TestMovedBackItIsWhatItWas(t *testing.T) {
	steps := []int64{math.MinInt64, -top - 1, -top, 1 - top, -3, 0, 1, top - 1, top, top + 1, math.MaxInt64}
	for _, p := range append(far(), r(2, 3, 4, 5)) {
		for _, x := range steps {
			for _, y := range steps {
				moved, exact := rect.Move(p, x, y)
				if exact != (rect.May(p) && mayMove(p.X, x) && mayMove(p.Y, y)) {
					t.Fatalf("Move(%v, %d, %d) is exact: %v", p, x, y, exact)
				}
				if !rect.May(moved) {
					t.Fatalf("Move(%v, %d, %d) = %v, which may not be", p, x, y, moved)
				}
				if !exact {
					continue
				}
				if back, is := rect.Move(moved, -x, -y); back != p || !is {
					t.Fatalf("%v, moved by %d, %d, and back: %v, %v", p, x, y, back, is)
				}
			}
		}
	}
}

// mayMove tells whether a number, and what it is moved to, may be.
func mayMove(from, by int64) bool {
	return -top <= by && by <= top && -top <= from+by && from+by <= top
}

func TestWhatTwoHaveTogether(t *testing.T) {
	near := spread([]int64{-1, 0, 2}, []int64{0, 1, 3})
	for _, l := range [][]api.Rect{near, far()} {
		for _, a := range l {
			for _, b := range l {
				together, are := rect.Meet(a, b)
				if !rect.May(together) || are != rect.Has(together, together.X, together.Y) {
					t.Fatalf("Meet(%v, %v) = %v, %v", a, b, together, are)
				}
				for _, p := range pointsOf(a, b) {
					both := rect.Has(a, p[0], p[1]) && rect.Has(b, p[0], p[1])
					if rect.Has(together, p[0], p[1]) != both {
						t.Fatalf("Meet(%v, %v) = %v, but of %v it is %v that both have it", a, b, together, p, both)
					}
				}
			}
		}
	}
}

func TestUnionHasAllThatAnyHas(t *testing.T) {
	near := spread([]int64{-1, 0, 2}, []int64{0, 1, 3})
	exactOnes := 0
	for _, l := range [][]api.Rect{near, far()} {
		for i, a := range l {
			for _, b := range l {
				c := l[(i*7+3)%len(l)]
				all, exact := rect.Union(a, b, c)
				if !rect.May(all) {
					t.Fatalf("Union(%v, %v, %v) = %v, which may not be", a, b, c, all)
				}
				if !exact {
					continue
				}
				exactOnes++
				for _, p := range pointsOf(a, b, c) {
					one := rect.Has(a, p[0], p[1]) || rect.Has(b, p[0], p[1]) || rect.Has(c, p[0], p[1])
					if one && !rect.Has(all, p[0], p[1]) {
						t.Fatalf("Union(%v, %v, %v) = %v, which lacks %v", a, b, c, all, p)
					}
				}
			}
		}
	}
	if exactOnes < len(near)*len(near) {
		t.Errorf("no more than %d unions are exact", exactOnes)
	}
}

func TestUnionGoesInAnyOrder(t *testing.T) {
	l := far()
	for i, a := range l {
		for _, b := range l {
			c := l[(i*5+1)%len(l)]
			if one, two := answer(rect.Union(a, b, c)), answer(rect.Union(c, b, a)); one != two {
				t.Fatalf("Union of %v, %v, %v: %v, turned %v", a, b, c, one, two)
			}
		}
	}
}

func TestInsetBackItIsWhatItWas(t *testing.T) {
	for _, p := range append(far(), r(2, 3, 40, 50)) {
		for _, n := range []int64{-top, -5, 0, 1, 9, top} {
			inner, exact := rect.Inset(p, n, 1, 0, n)
			if !rect.May(inner) {
				t.Fatalf("Inset(%v, %d, 1, 0, %d) = %v, which may not be", p, n, n, inner)
			}
			if !exact {
				continue
			}
			if back, is := rect.Inset(inner, -n, -1, 0, -n); is && back != p {
				t.Fatalf("%v, less by %d, and back: %v", p, n, back)
			}
		}
	}
}
