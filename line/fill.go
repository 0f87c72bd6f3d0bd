package line

import (
	"iter"

	"scrim/api"
	"scrim/fixed"
	"scrim/measure"
	"scrim/value"
)

// filler lays lines, one below the other. The open one isn't laid yet: rows may come into it, by which it is moved less.
type filler struct {
	room, align int64
	open        []measure.Piece
	wide        int64 // the open line
	places      []Place
	lines       int
	high        int64 // all lines that are laid
	cut         bool  // some number wasn't exact
}

// take takes a row into the open line, or, where it has no room, into a new one.
func (f *filler) take(row []measure.Piece) {
	if len(f.open) > 0 {
		// What isn't exact counts for nothing, unless the row stays.
		wide, exact := widened(f.wide, gapsAndWidths(row))
		if wide <= f.room {
			f.open, f.wide = append(f.open, row...), f.number(wide, exact)
			return
		}
		f.end()
	}
	f.open, f.wide = row, f.number(widened(0, gapsAndWidths(row)[1:]))
}

// end lays the open line, if there is one.
func (f *filler) end() {
	if len(f.open) == 0 {
		return
	}
	high := highest(f.open)
	x := f.moved()
	for at, p := range f.open {
		if at > 0 {
			x = f.number(fixed.Add(x, p.Gap))
		}
		y := f.number(fixed.Add(f.high, high-p.H))
		f.places = append(f.places, Place{Piece: len(f.places), Line: f.lines, Rect: api.Rect{X: x, Y: y, W: p.W, H: p.H}})
		x = f.number(fixed.Add(x, p.W))
	}
	f.high = f.number(fixed.Add(f.high, high))
	f.lines++
}

// moved tells what the open line is moved by.
func (f *filler) moved() int64 {
	over := max(f.room-f.wide, 0)
	switch f.align {
	case value.Center:
		return over / 2
	case value.AtRight:
		return over
	}
	return 0
}

func (f *filler) number(n int64, exact bool) int64 {
	f.cut = f.cut || !exact
	return n
}

// rows yields pieces, as many at once as have no break between. What is appended to a row doesn't reach the pieces behind it.
func rows(l []measure.Piece) iter.Seq[[]measure.Piece] {
	return func(yield func(row []measure.Piece) bool) {
		begin := 0
		for at := 1; at <= len(l); at++ {
			if at < len(l) && !l[at].Break {
				continue
			}
			if !yield(l[begin:at:at]) {
				return
			}
			begin = at
		}
	}
}

// gapsAndWidths tells of each piece its gap, and its width behind that.
func gapsAndWidths(row []measure.Piece) []int64 {
	var numbers []int64
	for _, p := range row {
		numbers = append(numbers, p.Gap, p.W)
	}
	return numbers
}

// widened tells how wide a line is, with what comes behind it.
func widened(wide int64, numbers []int64) (int64, bool) {
	return fixed.Sum(append([]int64{wide}, numbers...))
}

func highest(l []measure.Piece) int64 {
	var high int64
	for _, p := range l {
		high = max(high, p.H)
	}
	return high
}
