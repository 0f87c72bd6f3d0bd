package line_test

import (
	"math"
	"slices"
	"testing"

	"scrim/api"
	"scrim/line"
	"scrim/measure"
	"scrim/value"
)

const top = api.MostFixed

// word is a piece that no break is ahead of; behind, one that has a gap and a break ahead; glued, one that has a gap alone.
func word(w, h int64) measure.Piece { return measure.Piece{W: w, H: h} }

func behind(gap, w, h int64) measure.Piece {
	return measure.Piece{W: w, H: h, Gap: gap, Break: true}
}

func glued(gap, w, h int64) measure.Piece { return measure.Piece{W: w, H: h, Gap: gap} }

func pieces(l ...measure.Piece) []measure.Piece { return l }

// spot is what Fill has to find of a piece: its line, and where it begins.
type spot struct {
	line int
	x, y int64
}

// placesOf are the places of pieces at spots.
func placesOf(l []measure.Piece, spots []spot) []line.Place {
	var places []line.Place
	for at, s := range spots {
		places = append(places, line.Place{Piece: at, Line: s.line, Rect: api.Rect{X: s.x, Y: s.y, W: l[at].W, H: l[at].H}})
	}
	return places
}

// check holds what Fill tells of pieces, and that they stay as they were.
func check(t *testing.T, l []measure.Piece, room, align int64, high int64, exact bool, spots ...spot) {
	t.Helper()
	kept := slices.Clone(l)
	got, gotHigh, is := line.Fill(l, room, align)
	if want := placesOf(l, spots); !slices.Equal(got, want) || gotHigh != high || is != exact {
		t.Errorf("Fill(%+v, %d, %d):\n%+v, %d, %v, want\n%+v, %d, %v", l, room, align, got, gotHigh, is, want, high, exact)
	}
	if !slices.Equal(l, kept) {
		t.Errorf("the pieces are now %+v, were %+v", l, kept)
	}
}

// P16.1

func TestFillOfNone(t *testing.T) {
	for _, room := range []int64{0, 1, 64, top} {
		for align := int64(-1); align < 4; align++ {
			check(t, nil, room, align, 0, true)
			check(t, pieces(), room, align, 0, true)
		}
	}
}

func TestFillOfOne(t *testing.T) {
	for _, p := range pieces(word(10, 4), glued(9, 10, 4), behind(9, 10, 4), behind(top, 10, 4)) {
		for _, room := range []int64{0, 1, 9, 10} {
			for align := int64(-1); align < 4; align++ {
				check(t, pieces(p), room, align, 4, true, spot{0, 0, 0})
			}
		}
		check(t, pieces(p), 11, value.AtRight, 4, true, spot{0, 1, 0})
	}
	check(t, pieces(word(0, 0)), 0, value.Center, 0, true, spot{0, 0, 0})
	check(t, pieces(word(top, top)), top, value.Center, top, true, spot{0, 0, 0})
	check(t, pieces(word(0, 7)), top, value.AtRight, 7, true, spot{0, top, 0})
	check(t, pieces(word(1, 7)), top, value.Center, 7, true, spot{0, top/2 - 1, 0})
	check(t, pieces(word(top, 7)), 0, value.AtLeft, 7, true, spot{0, 0, 0})
}

// A row stays in a line as wide as the room, and is too wide by one.
func TestFillToTheRoom(t *testing.T) {
	l := pieces(word(10, 1), behind(2, 10, 1), behind(3, 10, 1))
	check(t, l, 35, value.AtLeft, 1, true, spot{0, 0, 0}, spot{0, 12, 0}, spot{0, 25, 0})
	check(t, l, 34, value.AtLeft, 2, true, spot{0, 0, 0}, spot{0, 12, 0}, spot{1, 0, 1})
	check(t, l, 23, value.AtLeft, 2, true, spot{0, 0, 0}, spot{0, 12, 0}, spot{1, 0, 1})
	check(t, l, 22, value.AtLeft, 2, true, spot{0, 0, 0}, spot{0, 12, 0}, spot{1, 0, 1})
	check(t, l, 21, value.AtLeft, 3, true, spot{0, 0, 0}, spot{1, 0, 1}, spot{2, 0, 2})
	check(t, l, 0, value.AtLeft, 3, true, spot{0, 0, 0}, spot{1, 0, 1}, spot{2, 0, 2})
	check(t, l, top, value.AtLeft, 1, true, spot{0, 0, 0}, spot{0, 12, 0}, spot{0, 25, 0})
	// Widths and gaps of 0 stay where they have room.
	none := pieces(word(0, 1), behind(0, 0, 1), behind(0, 0, 1), behind(1, 0, 1))
	check(t, none, 0, value.AtLeft, 2, true, spot{0, 0, 0}, spot{0, 0, 0}, spot{0, 0, 0}, spot{1, 0, 1})
	check(t, none, 1, value.AtLeft, 1, true, spot{0, 0, 0}, spot{0, 0, 0}, spot{0, 0, 0}, spot{0, 1, 0})
}

// Pieces between which no break is stay together, whatever the room; their gaps count.
func TestFillOfRows(t *testing.T) {
	l := pieces(word(10, 1), glued(0, 5, 1), behind(2, 6, 1), glued(3, 4, 1), glued(0, 1, 1), behind(0, 9, 1))
	one := []spot{{0, 0, 0}, {0, 10, 0}, {0, 17, 0}, {0, 26, 0}, {0, 30, 0}, {0, 31, 0}}
	check(t, l, 40, value.AtLeft, 1, true, one...)
	check(t, l, 39, value.AtLeft, 2, true, append(one[:5:5], spot{1, 0, 1})...)
	check(t, l, 31, value.AtLeft, 2, true, append(one[:5:5], spot{1, 0, 1})...)
	two := []spot{{0, 0, 0}, {0, 10, 0}, {1, 0, 1}, {1, 9, 1}, {1, 13, 1}, {1, 14, 1}}
	check(t, l, 30, value.AtLeft, 2, true, two...)
	check(t, l, 23, value.AtLeft, 2, true, two...)
	three := append(two[:5:5], spot{2, 0, 2})
	for _, room := range []int64{22, 14, 13, 1, 0} {
		check(t, l, room, value.AtLeft, 3, true, three...)
	}
	// One row alone is one line.
	row := pieces(behind(9, 10, 2), glued(1, 10, 2), glued(0, 10, 2))
	for _, room := range []int64{0, 30, 31, 40, top} {
		check(t, row, room, value.AtLeft, 2, true, spot{0, 0, 0}, spot{0, 11, 0}, spot{0, 21, 0})
	}
}

// The gap ahead of a line's first piece counts for nothing: not of the first line, not of others.
func TestFillPassesFirstGapsOver(t *testing.T) {
	check(t, pieces(behind(9, 5, 1), behind(9, 5, 1), behind(9, 5, 1)), 18, value.AtLeft, 3, true, spot{0, 0, 0}, spot{1, 0, 1}, spot{2, 0, 2})
	check(t, pieces(behind(9, 5, 1), behind(9, 5, 1), behind(9, 5, 1)), 19, value.AtLeft, 2, true, spot{0, 0, 0}, spot{0, 14, 0}, spot{1, 0, 1})
	check(t, pieces(glued(top, 5, 1), glued(1, 5, 1)), 20, value.AtRight, 1, true, spot{0, 9, 0}, spot{0, 15, 0})
	// A line's width, by which it is moved, is without it, too.
	check(t, pieces(word(8, 1), behind(4, 5, 1), glued(1, 2, 1)), 10, value.AtRight, 2, true, spot{0, 2, 0}, spot{1, 2, 1}, spot{1, 8, 1})
}

func TestFillMovesLines(t *testing.T) {
	l := pieces(word(10, 1), behind(1, 2, 1), behind(1, 11, 1), behind(1, 30, 1), behind(1, 20, 1))
	// 20 wide: lines of 13, 11, 30 and 20.
	for align, moved := range map[int64][]int64{
		value.AtLeft: {0, 0, 0, 0}, value.Center: {3, 4, 0, 0}, value.AtRight: {7, 9, 0, 0}, 3: {0, 0, 0, 0}, -1: {0, 0, 0, 0}, 1<<32 + 1: {0, 0, 0, 0}, math.MinInt64: {0, 0, 0, 0}, math.MaxInt64: {0, 0, 0, 0},
	} {
		check(t, l, 20, align, 4, true, spot{0, moved[0], 0}, spot{0, 11 + moved[0], 0}, spot{1, moved[1], 1}, spot{2, moved[2], 2}, spot{3, moved[3], 3})
	}
	for room, half := range map[int64]int64{10: 0, 11: 0, 12: 1, 13: 1, 14: 2, 9: 0, 0: 0} {
		check(t, pieces(word(10, 1)), room, value.Center, 1, true, spot{0, half, 0})
		check(t, pieces(word(10, 1)), room, value.AtRight, 1, true, spot{0, max(room-10, 0), 0})
	}
	check(t, pieces(word(0, 1), glued(2, 0, 1)), top, value.AtRight, 1, true, spot{0, top - 2, 0}, spot{0, top, 0})
}

// Lower ends are those of lines, which are as high as their highest pieces.
func TestFillOfUnlikeHeights(t *testing.T) {
	l := pieces(word(10, 3), glued(0, 10, 9), behind(0, 10, 5), behind(0, 10, 0), behind(0, 10, 4), behind(0, 10, 1), behind(0, 10, 0))
	check(t, l, 30, value.AtLeft, 13, true, spot{0, 0, 6}, spot{0, 10, 0}, spot{0, 20, 4}, spot{1, 0, 13}, spot{1, 10, 9}, spot{1, 20, 12}, spot{2, 0, 13})
	check(t, l, 20, value.AtLeft, 18, true, spot{0, 0, 6}, spot{0, 10, 0}, spot{1, 0, 9}, spot{1, 10, 14}, spot{2, 0, 14}, spot{2, 10, 17}, spot{3, 0, 18})
}

func TestFillOfHeightsThatFall(t *testing.T) {
	check(t, pieces(word(1, 9), behind(0, 1, 2), behind(0, 1, 5), behind(0, 1, 5)), 1, value.AtLeft, 21, true, spot{0, 0, 0}, spot{1, 0, 9}, spot{2, 0, 11}, spot{3, 0, 16})
	check(t, pieces(word(1, 0), behind(0, 1, 0)), 1, value.AtLeft, 0, true, spot{0, 0, 0}, spot{1, 0, 0})
	check(t, pieces(word(1, top), behind(0, 1, 0)), 1, value.AtLeft, top, true, spot{0, 0, 0}, spot{1, 0, top})
}

// Widths that aren't exact: where they stay, they count; where something doesn't fit, they don't.
func TestFillOfWidthsThatAreNotExact(t *testing.T) {
	at := func(x int64) spot { return spot{0, x, 0} }
	// One row.
	check(t, pieces(word(top, 1), word(1, 1)), 5, value.AtLeft, 1, false, at(0), at(top))
	check(t, pieces(word(top, 1), word(1, 1)), top, value.AtRight, 1, false, at(0), at(top))
	check(t, pieces(word(1, 1), glued(top, 0, 1)), 5, value.AtLeft, 1, false, at(0), at(top))
	check(t, pieces(word(1, 1), glued(top-1, 0, 1)), 5, value.AtLeft, 1, true, at(0), at(top))
	check(t, pieces(word(1, 1), glued(top-1, 1, 1)), 5, value.AtLeft, 1, false, at(0), at(top))
	check(t, pieces(word(top, 1), word(5, 1), word(5, 1)), 5, value.Center, 1, false, at(0), at(top), at(top))
	// It is no wider than the greatest room, as it counts, and stays.
	check(t, pieces(word(top, 1), behind(0, 1, 1)), top, value.AtLeft, 1, false, at(0), at(top))
	check(t, pieces(word(1, 1), behind(top, 1, 1), behind(top, 1, 1)), top, value.AtLeft, 1, false, at(0), at(top), at(top))
	check(t, pieces(word(top, 1), behind(0, 0, 1)), top, value.AtLeft, 1, true, at(0), at(top))
	// It doesn't fit, and counts for nothing.
	check(t, pieces(word(top-1, 1), behind(0, 2, 1)), top-1, value.AtLeft, 2, true, at(0), spot{1, 0, 1})
	check(t, pieces(word(top, 1), behind(0, 2, 1)), top-1, value.AtLeft, 2, true, at(0), spot{1, 0, 1})
	check(t, pieces(word(5, 1), behind(top, 5, 1), behind(top, top, 1)), 100, value.Center, 3, true, at(47), spot{1, 47, 1}, spot{2, 0, 2})
	check(t, pieces(word(1, 1), behind(top, 1, 1), glued(top, 1, 1)), 9, value.AtLeft, 2, false, at(0), spot{1, 0, 1}, spot{1, top, 1})
	// What wasn't exact once isn't again.
	check(t, pieces(word(top, 1), word(1, 1), behind(0, 1, 1)), 9, value.AtLeft, 2, false, at(0), at(top), spot{1, 0, 1})
}

func TestFillOfHeightsThatAreNotExact(t *testing.T) {
	check(t, pieces(word(1, top), behind(0, 1, 1)), 1, value.AtLeft, top, false, spot{0, 0, 0}, spot{1, 0, top})
	check(t, pieces(word(1, top-1), behind(0, 1, 1)), 1, value.AtLeft, top, true, spot{0, 0, 0}, spot{1, 0, top - 1})
	check(t, pieces(word(1, top), behind(0, 1, 5), glued(0, 1, 0)), 1, value.AtLeft, top, false, spot{0, 0, 0}, spot{1, 0, top}, spot{1, 1, top})
	check(t, pieces(word(1, top), behind(0, 1, 1), behind(0, 1, 0), behind(0, 1, 3)), 1, value.AtLeft, top, false, spot{0, 0, 0}, spot{1, 0, top}, spot{2, 0, top}, spot{3, 0, top})
	check(t, pieces(word(1, top-5), behind(0, 1, 9), glued(0, 1, 6), glued(0, 1, 1)), 1, value.AtLeft, top, false, spot{0, 0, 0}, spot{1, 0, top - 5}, spot{1, 1, top - 2}, spot{1, 2, top})
}

func TestFillOfWrongOnes(t *testing.T) {
	good := pieces(word(1, 2), behind(3, 4, 5), word(6, 7))
	for _, n := range []int64{-1, top + 1, math.MinInt64, math.MaxInt64, -top} {
		for at := range good {
			for _, which := range []func(p *measure.Piece) *int64{
				func(p *measure.Piece) *int64 { return &p.W },
				func(p *measure.Piece) *int64 { return &p.H },
				func(p *measure.Piece) *int64 { return &p.Gap },
			} {
				l := slices.Clone(good)
				*which(&l[at]) = n
				check(t, l, 9, value.AtLeft, 0, false)
				check(t, l[at:at+1], 9, value.AtLeft, 0, false)
			}
		}
		check(t, good, n, value.AtLeft, 0, false)
		check(t, nil, n, value.AtLeft, 0, false)
	}
	for _, n := range []int64{0, top} {
		for _, p := range pieces(word(n, 0), word(0, n), glued(n, 0, 0)) {
			check(t, pieces(p), n, value.AtLeft, p.H, true, spot{0, 0, 0})
		}
	}
}

// P16.2

func TestWide(t *testing.T) {
	for _, c := range []struct {
		l          []measure.Piece
		room, want int64
	}{
		{nil, 5, 0}, {pieces(word(0, 1)), 5, 0}, {pieces(word(7, 1)), 5, 7}, {pieces(behind(9, 7, 1)), 50, 7}, {pieces(word(7, 1), behind(2, 3, 1)), 12, 12}, {pieces(word(7, 1), behind(2, 3, 1)), 11, 7}, {pieces(word(3, 1), behind(2, 7, 1)), 11, 7}, {pieces(word(3, 1), behind(2, 7, 1), behind(1, 4, 1)), 9, 7},
		{pieces(word(3, 1), behind(2, 3, 1), behind(2, 2, 1), behind(1, 6, 1)), 8, 8}, {pieces(word(3, 1), behind(2, 3, 1), behind(2, 2, 1), behind(1, 6, 1)), 9, 9}, {pieces(word(3, 1), glued(2, 0, 1)), 1, 5}, {pieces(word(top, 1), behind(2, 3, 1)), 1, top}, {pieces(word(1, 1), behind(2, top, 1), behind(1, 1, 1)), 1, top},
	} {
		for align := int64(0); align < 4; align++ {
			places, _, is := line.Fill(c.l, c.room, align)
			kept := slices.Clone(places)
			if got := line.Wide(places); got != c.want || !is {
				t.Errorf("Wide of %+v is %d, %v, want %d", places, got, is, c.want)
			}
			if !slices.Equal(places, kept) {
				t.Errorf("places are now %+v, were %+v", places, kept)
			}
		}
	}
	// Lines that aren't exact.
	for _, l := range [][]measure.Piece{pieces(word(top, 1), word(9, 1)), pieces(word(9, 1), glued(top, top, 1)), pieces(word(1, 1), behind(0, top, 1), word(top, 1))} {
		places, _, is := line.Fill(l, 5, value.AtLeft)
		if got := line.Wide(places); got != top || is {
			t.Errorf("Wide of %+v is %d, %v", places, got, is)
		}
	}
}
