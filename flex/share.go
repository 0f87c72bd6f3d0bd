package flex

import (
	"scrim/api"
	"scrim/fixed"
)

const (
	mostItems = 100
	// mostWeight is a hundred wholes; of all items together these are no more than fixed.Part takes.
	mostWeight = 100 * api.Unit
)

// tally knows whether some number wasn't exact.
type tally struct{ cut bool }

func (t *tally) number(n int64, exact bool) int64 {
	t.cut = t.cut || !exact
	return n
}

// sharer shares a room. What is frozen has the size 0 for good.
type sharer struct {
	tally
	items  []Item
	room   int64
	sizes  []int64
	frozen []bool
}

func sharerOf(l []Item, room int64) *sharer {
	s := sharer{room: room, sizes: make([]int64, len(l)), frozen: make([]bool, len(l))}
	for _, x := range l {
		s.items = append(s.items, Item{
			Base:   counted(x.Base, api.MostFixed),
			Extra:  counted(x.Extra, api.MostFixed),
			Grow:   counted(x.Grow, mostWeight),
			Shrink: counted(x.Shrink, mostWeight),
		})
	}
	return &s
}

func counted(n, most int64) int64 { return min(max(n, 0), most) }

// round gives all that aren't frozen a size, and tells whether there is another round.
func (s *sharer) round() bool {
	rest := s.rest()
	if rest < 0 {
		return s.shrink(-rest)
	}
	s.grow(rest)
	return false
}

// rest tells the room that items leave.
func (s *sharer) rest() int64 {
	var taken []int64
	for at, x := range s.items {
		taken = append(taken, x.Extra)
		if !s.frozen[at] {
			taken = append(taken, x.Base)
		}
	}
	return s.number(fixed.Sub(s.room, s.number(fixed.Sum(taken))))
}

func (s *sharer) grow(rest int64) {
	shares := s.shares(rest, func(x Item) int64 { return x.Grow })
	for at, x := range s.items {
		if !s.frozen[at] {
			s.sizes[at] = s.number(fixed.Add(x.Base, shares[at]))
		}
	}
}

// shrink tells whether an item was frozen.
func (s *sharer) shrink(lack int64) bool {
	shares := s.shares(lack, func(x Item) int64 { return x.Shrink })
	isAny := false
	for at, x := range s.items {
		if s.frozen[at] {
			continue
		}
		size := s.number(fixed.Sub(x.Base, shares[at]))
		s.frozen[at] = size < 0
		s.sizes[at] = max(size, 0)
		isAny = isAny || size < 0
	}
	return isAny
}

// shares tells the shares of items that aren't frozen, by what each one weighs. Together they are less than all, where all weigh less than a whole.
func (s *sharer) shares(all int64, weigh func(x Item) int64) []int64 {
	var weight int64
	for at, x := range s.items {
		if !s.frozen[at] {
			weight += weigh(x)
		}
	}
	shares := make([]int64, len(s.items))
	for at, x := range s.items {
		if !s.frozen[at] {
			shares[at] = s.number(fixed.Part(all, weigh(x), max(weight, api.Unit)))
		}
	}
	return shares
}
