package meter_test

import (
	"math"
	"testing"

	"scrim/api"
	"scrim/meter"
)

const (
	mostLimit = 1 << 40
	mostCount = 1 << 20
)

// state is what a meter tells.
type state struct {
	taken, left int
	over        bool
}

func stateOf(m *meter.Meter) state { return state{m.Taken(), m.Left(), m.Over()} }

func made(t *testing.T, limit int) *meter.Meter {
	t.Helper()
	m, e := meter.New(limit)
	if m == nil || e != api.OK {
		t.Fatalf("New(%d) = %v, %d", limit, m, e)
	}
	return m
}

// P3.1

func TestNew(t *testing.T) {
	for _, limit := range []int{0, 1, 5, mostLimit - 1, mostLimit} {
		if got, want := stateOf(made(t, limit)), (state{0, limit, false}); got != want {
			t.Errorf("New(%d) is %v, want %v", limit, got, want)
		}
	}
	for _, limit := range []int{-1, -mostLimit, math.MinInt, mostLimit + 1, math.MaxInt} {
		if m, e := meter.New(limit); m != nil || e != api.ErrArg {
			t.Errorf("New(%d) = %v, %d, want none, %d", limit, m, e, api.ErrArg)
		}
	}
}

func TestTake(t *testing.T) {
	type step struct {
		n    int
		took bool
		then state
	}
	for _, c := range []struct {
		limit int
		steps []step
	}{
		{5, []step{{3, true, state{3, 2, false}}, {2, true, state{5, 0, false}}, {0, true, state{5, 0, false}}}},
		// One more than is left.
		{5, []step{{6, false, state{5, 0, true}}}},
		{5, []step{{3, true, state{3, 2, false}}, {3, false, state{5, 0, true}}}},
		{5, []step{{5, true, state{5, 0, false}}, {1, false, state{5, 0, true}}}},
		// Of one that is over nothing is taken any more.
		{5, []step{{9, false, state{5, 0, true}}, {0, false, state{5, 0, true}}, {1, false, state{5, 0, true}}, {-1, false, state{5, 0, true}}}},
		// Below 0 nothing is changed.
		{5, []step{{-1, false, state{0, 5, false}}, {math.MinInt, false, state{0, 5, false}}, {5, true, state{5, 0, false}}, {-1, false, state{5, 0, false}}}},
		{5, []step{{4, true, state{4, 1, false}}, {-4, false, state{4, 1, false}}, {1, true, state{5, 0, false}}}},
		// A limit of 0.
		{0, []step{{0, true, state{0, 0, false}}, {-1, false, state{0, 0, false}}, {1, false, state{0, 0, true}}, {0, false, state{0, 0, true}}}},
		// The greatest limit.
		{mostLimit, []step{{mostLimit, true, state{mostLimit, 0, false}}, {0, true, state{mostLimit, 0, false}}, {1, false, state{mostLimit, 0, true}}}},
		{mostLimit, []step{{mostLimit + 1, false, state{mostLimit, 0, true}}}},
		{mostLimit, []step{{1, true, state{1, mostLimit - 1, false}}, {mostLimit, false, state{mostLimit, 0, true}}}},
		// With what was taken, this would wrap.
		{5, []step{{3, true, state{3, 2, false}}, {math.MaxInt, false, state{5, 0, true}}}},
		{5, []step{{math.MaxInt, false, state{5, 0, true}}}},
		{mostLimit, []step{{mostLimit, true, state{mostLimit, 0, false}}, {math.MaxInt, false, state{mostLimit, 0, true}}}},
	} {
		m := made(t, c.limit)
		for i, s := range c.steps {
			if took := m.Take(s.n); took != s.took || stateOf(m) != s.then {
				t.Errorf("limit %d, step %d: Take(%d) = %v, then %v, want %v, %v", c.limit, i, s.n, took, stateOf(m), s.took, s.then)
			}
		}
	}
}

func TestMetersAreApart(t *testing.T) {
	a, b := made(t, 5), made(t, 5)
	a.Take(9)
	if got, want := stateOf(b), (state{0, 5, false}); got != want {
		t.Errorf("one was taken from, the other is %v, want %v", got, want)
	}
}

func TestAskingChangesNothing(t *testing.T) {
	m := made(t, 5)
	m.Take(2)
	for range 3 {
		if got, want := stateOf(m), (state{2, 3, false}); got != want {
			t.Fatalf("asked again: %v, want %v", got, want)
		}
	}
}

// P3.2

func TestBound(t *testing.T) {
	for _, c := range []struct{ nodes, rules, bytes, want int }{
		{0, 0, 0, 1},
		{1, 0, 0, 2},
		{0, 1, 0, 1},
		{0, 0, 1, 2},
		{2, 3, 4, 15},
		{3, 2, 4, 20},
		{10, 0, 5, 106},
		{60, 40, 4000, 2400 + 3600 + 4000 + 1},
		{mostCount, 0, 0, mostCount*mostCount + 1},
		{0, mostCount, 0, 1},
		{0, 0, mostCount, mostCount + 1},
		{1, mostCount, 0, mostCount + 2},
		{mostCount, mostCount, mostCount, 2*mostCount*mostCount + mostCount + 1},
		// One that is below 0, or too many.
		{-1, 0, 0, 0},
		{0, -1, 0, 0},
		{0, 0, -1, 0},
		{-1, 1, 1, 0},
		{1, -1, 1, 0},
		{1, 1, -1, 0},
		{-2, -3, -4, 0},
		{mostCount + 1, 0, 0, 0},
		{0, mostCount + 1, 0, 0},
		{0, 0, mostCount + 1, 0},
		{math.MaxInt, 1, 1, 0},
		{1, math.MaxInt, 1, 0},
		{1, 1, math.MaxInt, 0},
		{math.MinInt, 1, 1, 0},
		{1, math.MinInt, 1, 0},
		{1, 1, math.MinInt, 0},
	} {
		if got := meter.Bound(c.nodes, c.rules, c.bytes); got != c.want {
			t.Errorf("Bound(%d, %d, %d) = %d, want %d", c.nodes, c.rules, c.bytes, got, c.want)
		}
	}
}

// P3.3

// rows hands each row of so many numbers of some to do.
func rows(some []int, length int, do func(row []int)) {
	row := make([]int, length)
	var fill func(at int)
	fill = func(at int) {
		if at == length {
			do(row)
			return
		}
		for _, n := range some {
			row[at] = n
			fill(at + 1)
		}
	}
	fill(0)
}

func TestWhatIsTakenNeverFalls(t *testing.T) {
	some := []int{math.MinInt, -1, 0, 1, 2, 4, mostLimit, math.MaxInt}
	for _, limit := range []int{0, 1, 4, mostLimit} {
		rows(some, 4, func(row []int) {
			m := made(t, limit)
			was := stateOf(m)
			for _, n := range row {
				took := m.Take(n)
				is := stateOf(m)
				if is.taken < was.taken || is.taken > limit || is.left != limit-is.taken || was.over && is != was {
					t.Fatalf("limit %d, %d: Take(%d) makes %v of %v", limit, row, n, is, was)
				}
				if took != (is.taken == was.taken+n && !is.over) || is.over && is.left != 0 {
					t.Fatalf("limit %d, %d: Take(%d) = %v makes %v of %v", limit, row, n, took, is, was)
				}
				was = is
			}
		})
	}
}

func TestTakenInPartsIsTakenAtOnce(t *testing.T) {
	for _, limit := range []int{0, 1, 5, 6, mostLimit} {
		rows([]int{0, 1, 2, 3, mostLimit / 2}, 3, func(row []int) {
			parts, once := made(t, limit), made(t, limit)
			all, took := 0, true
			for _, n := range row {
				all += n
				took = parts.Take(n) && took
			}
			if at := once.Take(all); at != took || stateOf(once) != stateOf(parts) {
				t.Fatalf("limit %d: in parts of %d: %v, %v; at once: %v, %v", limit, row, took, stateOf(parts), at, stateOf(once))
			}
		})
	}
}
