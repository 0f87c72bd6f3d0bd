package block_test

import (
	"math/big"
	"math/rand"
	"slices"
	"testing"

	"scrim/api"
	"scrim/block"
	"scrim/cascade"
	"scrim/value"
)

// number is one that is told as it may be, while another one without end stays.
type number struct {
	now   int64
	exact bool
}

// plus adds, by numbers that have no end, and cuts what came out.
func (a number) plus(b int64) number {
	other, isOther := cut(big.NewInt(b))
	n, is := cut(new(big.Int).Add(big.NewInt(a.now), big.NewInt(other)))
	return number{n, a.exact && isOther && is}
}

func cut(n *big.Int) (int64, bool) {
	end := big.NewInt(top)
	if n.CmpAbs(end) <= 0 {
		return n.Int64(), true
	}
	return int64(n.Sign()) * top, false
}

func sum(l ...int64) number {
	n := number{0, true}
	for _, x := range l {
		n = n.plus(x)
	}
	return n
}

// some tells a number near 0, or, if it may be far, at times one near an end.
func some(r *rand.Rand, far bool) int64 {
	n := int64(r.Intn(41) - 20)
	if far && r.Intn(4) == 0 {
		return n + []int64{top, -top, top / 2, -top / 2, top * 2, -top * 2}[r.Intn(6)]
	}
	return n
}

// someStyle is one whose sides, Width and Height are of each kind.
func someStyle(r *rand.Rand, far bool) cascade.Style {
	s := first()
	for prop := value.Width; prop <= value.BorderLeft; prop++ {
		kind := api.Length
		switch {
		case prop <= value.MarginLeft && prop != value.Width && r.Intn(3) == 0:
			kind = api.Auto
		case prop == value.Width:
			kind = []int{api.Auto, api.Length, api.Percent}[r.Intn(3)]
		}
		s[prop] = api.Value{Kind: kind}
		if kind != api.Auto {
			s[prop].N = some(r, far)
		}
		if kind == api.Percent {
			s[prop].N = []int64{0, 1, 3200, 6400, 6401, 639999, 640000, 640001, 1 << 36}[r.Intn(9)]
		}
	}
	return s
}

// sideByWords tells a property's N, if it is a Length.
func sideByWords(s cascade.Style, prop int) int64 {
	if s[prop].Kind == api.Auto {
		return 0
	}
	return s[prop].N
}

func acrossByWords(s cascade.Style) number {
	var l []int64
	for _, prop := range []int{value.MarginLeft, value.MarginRight, value.BorderLeft, value.BorderRight, value.PaddingLeft, value.PaddingRight} {
		l = append(l, sideByWords(s, prop))
	}
	return sum(l...)
}

func downByWords(s cascade.Style) number {
	var l []int64
	for _, prop := range []int{value.MarginTop, value.MarginBottom, value.BorderTop, value.BorderBottom, value.PaddingTop, value.PaddingBottom} {
		l = append(l, sideByWords(s, prop))
	}
	return sum(l...)
}

func widthByWords(s cascade.Style, room int64) number {
	switch v := s[value.Width]; v.Kind {
	case api.Length:
		return number{v.N, true}
	case api.Percent:
		counts, isRoom := cut(big.NewInt(room))
		part := new(big.Int).Mul(big.NewInt(counts), big.NewInt(min(v.N, 640000)))
		n, is := cut(part.Quo(part, big.NewInt(6400)))
		return number{n, is && isRoom}
	}
	across := acrossByWords(s)
	rest := sum(room).plus(-across.now)
	return number{max(rest.now, 0), rest.exact && across.exact}
}

func shiftByWords(s cascade.Style, room, wide int64) number {
	if s[value.Width].Kind == api.Auto || s[value.MarginLeft].Kind != api.Auto {
		return number{sideByWords(s, value.MarginLeft), true}
	}
	across := acrossByWords(s)
	all := sum(wide).plus(across.now)
	exact := all.exact && across.exact
	if all.now >= room {
		return number{0, exact}
	}
	over := sum(room).plus(-all.now)
	if s[value.MarginRight].Kind == api.Auto {
		over.now /= 2
	}
	return number{over.now, over.exact && exact}
}

func meetByWords(a, b int64) number {
	if (a < 0) != (b < 0) {
		return sum(a).plus(b)
	}
	l := []int64{a, b}
	slices.Sort(l)
	if a < 0 {
		return number{l[0], true}
	}
	return number{l[1], true}
}

func stackByWords(l []block.Item) ([]int64, number) {
	var at []int64
	end, exact := number{0, true}, true
	for i, x := range l {
		margin := number{x.Top, true}
		if i > 0 {
			margin = meetByWords(l[i-1].Bottom, x.Top)
		}
		begin := end.plus(margin.now)
		exact = exact && margin.exact
		at, end = append(at, begin.now), begin.plus(x.High)
	}
	if len(l) > 0 {
		end = end.plus(l[len(l)-1].Bottom)
	}
	return at, number{max(end.now, 0), end.exact && exact}
}

func (a number) told() told { return told{a.now, a.exact} }

// count counts what is exact, and what isn't.
type count map[bool]int

func (c count) hold(t *testing.T, what string) {
	t.Helper()
	if c[true] < 2000 || c[false] < 500 {
		t.Errorf("%s: %d were exact, %d not", what, c[true], c[false])
	}
}

func TestManyStyles(t *testing.T) {
	r := rand.New(rand.NewSource(17))
	widths, shifts, sides := count{}, count{}, count{}
	for round := range 40000 {
		far := round%2 == 0
		s, room, wide := someStyle(r, far), some(r, far), some(r, far)
		x := block.Of(s)
		for side := range 4 {
			if x.Margin[side] != sideByWords(s, value.MarginTop+side) || x.Border[side] != sideByWords(s, value.BorderTop+side) || x.Padding[side] != sideByWords(s, value.PaddingTop+side) {
				t.Fatalf("Of %v is %v", s, x)
			}
		}
		width, shift, across := widthByWords(s, room), shiftByWords(s, room, wide), acrossByWords(s)
		if got := answer(block.Across(x)); got != across.told() {
			t.Fatalf("Across %v is %v, want %v", x, got, across)
		}
		if got, want := answer(block.Down(x)), downByWords(s).told(); got != want {
			t.Fatalf("Down %v is %v, want %v", x, got, want)
		}
		if got := answer(block.Width(s, room)); got != width.told() {
			t.Fatalf("Width of %v in %d is %v, want %v", s, room, got, width)
		}
		if got := answer(block.Shift(s, room, wide)); got != shift.told() {
			t.Fatalf("Shift of %v in %d, %d wide, is %v, want %v", s, room, wide, got, shift)
		}
		if got := block.Height(s, wide); got != wide && s[value.Height].Kind == api.Auto || got != s[value.Height].N && s[value.Height].Kind == api.Length {
			t.Fatalf("Height of %v, %d, is %d", s, wide, got)
		}
		widths[width.exact]++
		shifts[shift.exact]++
		sides[across.exact]++
		holdWidth(t, s, room)
	}
	widths.hold(t, "Width")
	shifts.hold(t, "Shift")
	sides.hold(t, "Across")
}

// P17.4

// holdWidth holds that a block with auto width fills its room, where its sides leave any, and that auto margins do, too.
func holdWidth(t *testing.T, s cascade.Style, room int64) {
	t.Helper()
	wide, isWide := block.Width(s, room)
	across, isAcross := block.Across(block.Of(s))
	if !isWide || !isAcross || across > top-wide {
		return
	}
	if s[value.Width].Kind == api.Auto && across <= room && wide+across != room {
		t.Fatalf("of %v %d and %d across aren't %d", s, wide, across, room)
	}
	shift, is := block.Shift(s, room, wide)
	if !is || s[value.Width].Kind == api.Auto || s[value.MarginLeft].Kind != api.Auto {
		return
	}
	over := room - wide - across
	behind := over - shift
	switch isCentered := s[value.MarginRight].Kind == api.Auto; {
	case over <= 0 && shift != 0, over > 0 && !isCentered && behind != 0, over > 0 && isCentered && behind != shift && behind != shift+1:
		t.Fatalf("of %v, %d wide in %d, %d is ahead, and %d behind", s, wide, room, shift, behind)
	}
}

func TestManyMargins(t *testing.T) {
	r := rand.New(rand.NewSource(18))
	counts := count{}
	for round := range 40000 {
		a, b := some(r, round%2 == 0), some(r, round%4 < 2)
		want := meetByWords(a, b)
		if got := answer(block.Meet(a, b)); got != want.told() {
			t.Fatalf("Meet(%d, %d) is %v, want %v", a, b, got, want)
		}
		if one, two := answer(block.Meet(a, b)), answer(block.Meet(b, a)); one != two {
			t.Fatalf("Meet of %d and %d: %v, turned %v", a, b, one, two)
		}
		counts[want.exact]++
	}
	counts.hold(t, "Meet")
}

func someItems(r *rand.Rand, far bool) []block.Item {
	var l []block.Item
	for range r.Intn(7) {
		l = append(l, item(some(r, far), some(r, far), some(r, far)))
	}
	return l
}

func TestManyStacks(t *testing.T) {
	r := rand.New(rand.NewSource(19))
	counts := count{}
	for round := range 40000 {
		l := someItems(r, round%4 == 0)
		kept := slices.Clone(l)
		at, high, exact := block.Stack(l)
		wantAt, want := stackByWords(l)
		if !slices.Equal(at, wantAt) || high != want.now || exact != want.exact {
			t.Fatalf("Stack of %v is %v, %d, %v, want %v, %v", l, at, high, exact, wantAt, want)
		}
		clear(at)
		if again, _, _ := block.Stack(l); !slices.Equal(again, wantAt) || !slices.Equal(l, kept) {
			t.Fatalf("Stack of %v, which was %v, is now %v", l, kept, again)
		}
		counts[want.exact]++
	}
	counts.hold(t, "Stack")
}

// With no margins all are as high as their sum, and each begins at the end of the one ahead.
func TestStackWithoutMargins(t *testing.T) {
	r := rand.New(rand.NewSource(20))
	for range 10000 {
		var l []block.Item
		var ends []int64
		all := int64(0)
		for range r.Intn(9) {
			high := int64(r.Intn(1000))
			l, ends, all = append(l, item(0, high, 0)), append(ends, all), all+high
		}
		if at, high, exact := block.Stack(l); !slices.Equal(at, ends) || high != all || !exact {
			t.Fatalf("Stack of %v is %v, %d, %v", l, at, high, exact)
		}
	}
}

func TestStackOfMany(t *testing.T) {
	l := make([]block.Item, 300000)
	for at := range l {
		l[at] = item(1, 2, 3)
	}
	at, high, exact := block.Stack(l)
	if want := int64(len(l)*5 + 1); len(at) != len(l) || at[len(l)-1] != want-5 || high != want || !exact {
		t.Errorf("Stack of many: %d, at %d, %d high, %v", len(at), at[len(l)-1], high, exact)
	}
}
