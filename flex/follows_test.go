package flex_test

import (
	"math/big"
	"math/rand"
	"slices"
	"testing"

	"scrim/api"
	"scrim/flex"
	"scrim/value"
)

// ledger adds by numbers that have no end, cuts what came out, and knows whether it ever cut.
type ledger struct{ isCut bool }

func (k *ledger) cut(n *big.Int) int64 {
	if end := big.NewInt(top); n.CmpAbs(end) > 0 {
		k.isCut = true
		return int64(n.Sign()) * top
	}
	return n.Int64()
}

func (k *ledger) add(a, b int64) int64 {
	x, y := k.cut(big.NewInt(a)), k.cut(big.NewInt(b))
	return k.cut(new(big.Int).Add(big.NewInt(x), big.NewInt(y)))
}

func (k *ledger) sub(a, b int64) int64 {
	y := k.cut(big.NewInt(b))
	return k.add(a, -y)
}

func (k *ledger) part(a, num, den int64) int64 {
	n := new(big.Int).Mul(big.NewInt(a), big.NewInt(num))
	return k.cut(n.Quo(n, big.NewInt(den)))
}

func within(n, most int64) int64 {
	switch {
	case n < 0:
		return 0
	case n > most:
		return most
	}
	return n
}

// shareByWords goes round by round, as the chapter tells; sizes tells the sizes of frozen ones.
func shareByWords(l []flex.Item, room int64) ([]int64, bool) {
	var k ledger
	sizes, frozen := make([]int64, len(l)), map[int]bool{}
	for {
		all, grows, shrinks := int64(0), int64(0), int64(0)
		for at, x := range l {
			all = k.add(all, within(x.Extra, top))
			if frozen[at] {
				all = k.add(all, sizes[at])
				continue
			}
			all = k.add(all, within(x.Base, top))
			grows += within(x.Grow, 6400)
			shrinks += within(x.Shrink, 6400)
		}
		rest, isAny := k.sub(room, all), false
		for at, x := range l {
			if frozen[at] {
				continue
			}
			if base := within(x.Base, top); rest >= 0 {
				sizes[at] = k.add(base, k.part(rest, within(x.Grow, 6400), max(grows, 64)))
			} else {
				sizes[at] = k.sub(base, k.part(-rest, within(x.Shrink, 6400), max(shrinks, 64)))
			}
			if sizes[at] < 0 {
				sizes[at], frozen[at], isAny = 0, true, true
			}
		}
		if rest >= 0 || !isAny {
			return sizes, !k.isCut
		}
	}
}

func justifyByWords(long []int64, room, how int64) ([]int64, bool) {
	var k ledger
	var all int64
	for _, n := range long {
		all = k.add(all, n)
	}
	over := max(k.sub(room, all), 0)
	at := map[int64]int64{value.Middle: over / 2, value.End: over}[how]
	between := int64(0)
	if how == value.Between && len(long) > 1 {
		between = over / int64(len(long)-1)
	}
	var begins []int64
	for i, n := range long {
		begins = append(begins, at)
		if i+1 < len(long) {
			at = k.add(k.add(at, n), between)
		}
	}
	return begins, !k.isCut
}

// some tells a number near 0, or, at times, if it may be far, one near an end.
func some(r *rand.Rand, most int, far bool) int64 {
	if far && r.Intn(5) == 0 {
		return int64(r.Intn(9)-4) + []int64{top, top / 2, top / 3, -top, 2 * top, 1 << 62, -1 << 62}[r.Intn(7)]
	}
	return int64(r.Intn(most) - most/9)
}

func someItems(r *rand.Rand, far bool) []flex.Item {
	var l []flex.Item
	weight := func() int64 {
		return []int64{0, 0, 1, 16, 33, 64, 64, 64, 128, 640, 6399, 6400, 6401, 1 << 50, -64}[r.Intn(15)]
	}
	for range r.Intn(7) {
		l = append(l, item(some(r, 200, far), some(r, 20, far), weight(), weight()))
	}
	return l
}

// count counts what is exact, and what isn't.
type count map[bool]int

func (c count) hold(t *testing.T, what string) {
	t.Helper()
	if c[true] < 10000 || c[false] < 5000 {
		t.Errorf("%s: %d were exact, %d not", what, c[true], c[false])
	}
}

func TestManyShares(t *testing.T) {
	r := rand.New(rand.NewSource(18))
	counts := count{}
	for round := range 60000 {
		far := round%2 == 0
		l, room := someItems(r, far), some(r, 900, far)
		want, exact := shareByWords(l, room)
		holdShare(t, l, room, exact, want...)
		if t.Failed() {
			return
		}
		counts[exact]++
		if exact {
			holdSizes(t, l, room, want)
		}
	}
	counts.hold(t, "Share")
}

// P18.4

// holdSizes holds what follows of sizes that are exact.
func holdSizes(t *testing.T, l []flex.Item, room int64, sizes []int64) {
	t.Helper()
	var bases, all, extras int64
	isWhole := len(l) > 0
	for at, x := range l {
		base, extra := within(x.Base, top), within(x.Extra, top)
		bases, all, extras = bases+base+extra, all+sizes[at]+extra, extras+extra
		isWhole = isWhole && x.Grow >= api.Unit
		if sizes[at] < 0 || x.Grow <= 0 && x.Shrink <= 0 && sizes[at] != base {
			t.Fatalf("of %v in %d: %v", l, room, sizes)
		}
		for other, y := range l[:at] {
			if x == y && sizes[at] != sizes[other] {
				t.Fatalf("of %v in %d, alike ones are unlike: %v", l, room, sizes)
			}
		}
	}
	switch {
	case bases <= room && all > room:
		t.Fatalf("of %v in %d, all are %d: %v", l, room, all, sizes)
	case bases <= room && isWhole && (room-all < 0 || room-all >= int64(len(l))):
		t.Fatalf("of %v in %d, %d is left: %v", l, room, room-all, sizes)
	}
}

func TestManyJustified(t *testing.T) {
	r := rand.New(rand.NewSource(19))
	counts := count{}
	for round := range 60000 {
		far := round%2 == 0
		var long []int64
		for range r.Intn(7) {
			long = append(long, some(r, 90, far))
		}
		room, how := some(r, 500, far), int64(r.Intn(6)-1)
		want, exact := justifyByWords(long, room, how)
		holdJustify(t, long, room, how, exact, want...)
		if t.Failed() {
			return
		}
		counts[exact]++
	}
	counts.hold(t, "Justify")
}

func TestManyOrders(t *testing.T) {
	r := rand.New(rand.NewSource(20))
	for range 20000 {
		var l []int64
		for range r.Intn(40) {
			l = append(l, int64(r.Intn(7)-3))
		}
		order := flex.Order(l)
		sorted := slices.Sorted(slices.Values(order))
		for at := range l {
			if len(order) != len(l) || sorted[at] != at {
				t.Fatalf("Order of %v is %v", l, order)
			}
			if at == 0 {
				continue
			}
			one, two := order[at-1], order[at]
			if l[one] > l[two] || l[one] == l[two] && one > two {
				t.Fatalf("Order of %v is %v", l, order)
			}
		}
	}
}

func TestAnswersShareNothing(t *testing.T) {
	l, long := items(item(20, 1, unit, unit), item(30, 1, unit, unit)), numbers(10, 20, 30)
	sizes, _ := flex.Share(l, 40)
	begins, _ := flex.Justify(long, 90, value.End)
	order := flex.Order(long)
	clear(sizes)
	clear(begins)
	clear(order)
	holdShare(t, l, 40, true, 14, 24)
	holdJustify(t, long, 90, value.End, true, 30, 40, 60)
	if got := flex.Order(long); !slices.Equal(got, []int{0, 1, 2}) {
		t.Errorf("Order is now %v", got)
	}
}
