package rect

// tally is handed each number as package fixed tells it, and keeps whether any of them was cut.
type tally struct{ cut bool }

// number hands on a number, and counts whether it is exact.
func (t *tally) number(n int64, exact bool) int64 {
	t.cut = t.cut || !exact
	return n
}

// size is likewise of how wide or high something is, which counts as cut if it was below 0.
func (t *tally) size(n int64, exact bool) int64 {
	return t.number(max(n, 0), exact && n >= 0)
}

// exact tells whether all so far is exact.
func (t *tally) exact() bool { return !t.cut }
