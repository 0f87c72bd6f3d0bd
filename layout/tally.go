package layout

import "scrim/fixed"

// tally knows whether some number that was asked wasn't exact.
type tally struct{ cut bool }

func (t *tally) note(exact bool) { t.cut = t.cut || !exact }

func (t *tally) number(n int64, exact bool) int64 {
	t.note(exact)
	return n
}

func (t *tally) numbers(l []int64, exact bool) []int64 {
	t.note(exact)
	return l
}

func (t *tally) add(a, b int64) int64 { return t.number(fixed.Add(a, b)) }

func (t *tally) sum(l ...int64) int64 { return t.number(fixed.Sum(l)) }
