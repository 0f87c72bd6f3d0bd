package line_test

import (
	"math/rand"
	"slices"
	"testing"

	"scrim/api"
	"scrim/line"
	"scrim/measure"
	"scrim/value"
)

// sum adds number by number, each time no more than may be.
func sum(l ...int64) (int64, bool) {
	all, exact := int64(0), true
	for _, n := range l {
		exact = exact && all+n <= top
		all = min(all+n, top)
	}
	return all, exact
}

// wide tells how wide pieces are in a line.
func wide(l []measure.Piece) (int64, bool) {
	var numbers []int64
	for at, p := range l {
		if at > 0 {
			numbers = append(numbers, p.Gap)
		}
		numbers = append(numbers, p.W)
	}
	return sum(numbers...)
}

// ends tells behind how many pieces each row ends.
func ends(l []measure.Piece) []int {
	var out []int
	for at := range l {
		if at+1 == len(l) || l[at+1].Break {
			out = append(out, at+1)
		}
	}
	return out
}

// linesByWords tells behind how many pieces each line ends: the last row's end up to which there is room, but one row at least.
func linesByWords(l []measure.Piece, room int64) []int {
	var out []int
	begin, rows := 0, ends(l)
	for len(rows) > 0 {
		took := 1
		for took < len(rows) {
			if n, _ := wide(l[begin:rows[took]]); n > room {
				break
			}
			took++
		}
		begin = rows[took-1]
		out, rows = append(out, begin), rows[took:]
	}
	return out
}

// byWords tells what Fill does, line by line.
func byWords(l []measure.Piece, room, align int64) ([]line.Place, int64, bool) {
	var places []line.Place
	var y int64
	exact, begin := true, 0
	note := func(n int64, is bool) int64 {
		exact = exact && is
		return n
	}
	for at, end := range linesByWords(l, room) {
		var high int64
		for _, p := range l[begin:end] {
			high = max(high, p.H)
		}
		over := max(room-note(wide(l[begin:end])), 0)
		moved := map[int64]int64{value.Center: over / 2, value.AtRight: over}[align]
		for i := begin; i < end; i++ {
			// What stands ahead of it is as wide as all up to it, without itself.
			ahead := slices.Clone(l[begin : i+1])
			ahead[i-begin].W = 0
			x := note(sum(moved, note(wide(ahead))))
			places = append(places, line.Place{Piece: i, Line: at, Rect: api.Rect{X: x, Y: note(sum(y, high-l[i].H)), W: l[i].W, H: l[i].H}})
		}
		y, begin = note(sum(y, high)), end
	}
	return places, y, exact
}

// somePieces are a few, of numbers near 0, and, at times, near the greatest.
func somePieces(some *rand.Rand, far bool) []measure.Piece {
	var l []measure.Piece
	number := func(most int) int64 {
		switch {
		case far && some.Intn(6) == 0:
			return top - int64(some.Intn(4))
		case far && some.Intn(9) == 0:
			return top/2 + int64(some.Intn(3))
		}
		return int64(some.Intn(most))
	}
	for range some.Intn(9) {
		l = append(l, measure.Piece{Box: some.Intn(9), W: number(12), H: number(9), Gap: number(4), Text: "x", Break: some.Intn(3) > 0})
	}
	return l
}

func someRoom(some *rand.Rand, far bool) int64 {
	if far && some.Intn(2) == 0 {
		return top - int64(some.Intn(3))
	}
	return int64(some.Intn(40))
}

func TestManyPieces(t *testing.T) {
	some := rand.New(rand.NewSource(16))
	exact, lines := map[bool]int{}, 0
	for round := range 60000 {
		far := round%2 == 0
		l, room, align := somePieces(some, far), someRoom(some, far), int64(some.Intn(5)-1)
		want, wantHigh, wantExact := byWords(l, room, align)
		check(t, l, room, align, wantHigh, wantExact, spotsOf(want)...)
		if t.Failed() {
			return
		}
		exact[wantExact]++
		lines += len(linesByWords(l, room))
		if wantExact {
			holdLines(t, l, room, align)
		}
	}
	if exact[true] < 20000 || exact[false] < 10000 || lines < 100000 {
		t.Errorf("%v, %d lines", exact, lines)
	}
}

func spotsOf(l []line.Place) []spot {
	var spots []spot
	for _, p := range l {
		spots = append(spots, spot{p.Line, p.Rect.X, p.Rect.Y})
	}
	return spots
}

// P16.3

// holdLines holds what follows of pieces whose sums are exact.
func holdLines(t *testing.T, l []measure.Piece, room, align int64) {
	t.Helper()
	places, high, _ := line.Fill(l, room, align)
	var begin int
	var widest, low int64
	for begin < len(places) {
		end := begin + 1
		for end < len(places) && places[end].Line == places[begin].Line {
			end++
		}
		holdLine(t, l, places, begin, end, room)
		n, _ := wide(l[begin:end])
		widest = max(widest, n)
		// A line begins where the one ahead ends.
		highest, lowest := int64(top), int64(0)
		for _, p := range places[begin:end] {
			highest, lowest = min(highest, p.Rect.Y), max(lowest, p.Rect.Y+p.Rect.H)
		}
		if highest != low || lowest < highest {
			t.Fatalf("a line of %+v is from %d to %d, want from %d", places, highest, lowest, low)
		}
		low, begin = lowest, end
	}
	if high != low || line.Wide(places) != widest {
		t.Fatalf("of %+v: %d high, %d wide, want %d, %d", places, high, line.Wide(places), low, widest)
	}
}

func holdLine(t *testing.T, l []measure.Piece, places []line.Place, begin, end int, room int64) {
	t.Helper()
	first, last := places[begin].Rect, places[end-1].Rect
	rows := len(ends(l[begin:end]))
	n, _ := wide(l[begin:end])
	switch {
	case n > room && rows > 1:
		t.Fatalf("of %+v, %d wide, a line of %d rows", l, room, rows)
	case n > room && first.X != 0 || n <= room && (first.X < 0 || last.X+last.W > room):
		t.Fatalf("of %+v, %d wide, a line is from %d to %d", l, room, first.X, last.X+last.W)
	case begin > 0 && !l[begin].Break:
		t.Fatalf("of %+v a row is parted ahead of %d", l, begin)
	}
	for at := begin + 1; at < end; at++ {
		if ahead := places[at-1].Rect; places[at].Rect.X != ahead.X+ahead.W+l[at].Gap {
			t.Fatalf("of %+v %d stands at %d, behind %+v", l, at, places[at].Rect.X, ahead)
		}
	}
	if end == len(l) {
		return
	}
	next := end + ends(l[end:])[0]
	if n, _ := wide(l[begin:next]); n <= room {
		t.Fatalf("of %+v, %d wide, a row at %d had room", l, room, end)
	}
}

// A line of many pieces, and many lines.
func TestFillOfMany(t *testing.T) {
	var l []measure.Piece
	for range 100000 {
		l = append(l, behind(1, 2, 3))
	}
	for room, lines := range map[int64]int{top: 1, 3*100000 - 1: 1, 3*100000 - 2: 2, 2: 100000, 5: 50000, 8: 33334, 0: 100000} {
		places, high, is := line.Fill(l, room, value.AtLeft)
		if len(places) != len(l) || places[len(l)-1].Line != lines-1 || high != 3*int64(lines) || !is {
			t.Errorf("%d wide: %d places, %d high, %v", room, len(places), high, is)
		}
	}
}

func TestAnswersShareNothing(t *testing.T) {
	l := pieces(word(5, 1), behind(1, 5, 1), behind(1, 5, 1), word(2, 2), behind(0, 1, 1))
	kept := slices.Clone(l)
	one, _, _ := line.Fill(l, 11, value.Center)
	two, _, _ := line.Fill(l, 11, value.Center)
	want := slices.Clone(one)
	clear(two)
	two = append(two[:0], line.Place{Line: 9})
	again, _, _ := line.Fill(l, 11, value.Center)
	if !slices.Equal(one, want) || !slices.Equal(again, want) || !slices.Equal(l, kept) {
		t.Errorf("%+v, %+v, of %+v", one, again, l)
	}
	// Pieces behind the list stay, too.
	line.Fill(l[:2], 99, value.AtLeft)
	line.Fill(l[:3], 0, value.AtLeft)
	if !slices.Equal(l, kept) {
		t.Errorf("pieces are now %+v", l)
	}
	places := slices.Clone(one)
	line.Wide(places)
	if !slices.Equal(places, want) || len(two) != 1 {
		t.Errorf("places are now %+v", places)
	}
}
