package cascade

import (
	"container/heap"

	"scrim/api"
	"scrim/match"
	"scrim/selector"
	"scrim/sheet"
	"scrim/value"
)

// claim is a declaration that is for a node, with all that decides against another one. Its place is that among the declarations of all rules.
type claim struct {
	decl   sheet.Decl
	weight int
	place  int
}

func (c claim) goesAheadOf(d claim) bool {
	if c.decl.Strong != d.decl.Strong {
		return c.decl.Strong
	}
	if c.weight != d.weight {
		return c.weight > d.weight
	}
	return c.place > d.place
}

// claims are a heap, of one property: the first of them is the winner.
type claims []claim

func (h claims) Len() int           { return len(h) }
func (h claims) Less(i, k int) bool { return h[i].goesAheadOf(h[k]) }
func (h claims) Swap(i, k int)      { h[i], h[k] = h[k], h[i] }
func (h *claims) Push(x any)        { *h = append(*h, x.(claim)) }

// Pop takes the last one off, which is where package heap puts the first.
func (h *claims) Pop() any {
	last := len(*h) - 1
	c := (*h)[last]
	*h = (*h)[:last]
	return c
}

// winner takes the winner off, if there is one.
func (h *claims) winner() (api.Value, bool) {
	if h.Len() == 0 {
		return api.Value{}, false
	}
	return heap.Pop(h).(claim).decl.Value, true
}

// claimsFor tells what is claimed for a node, by properties. Each rule is held against the node but once.
func claimsFor(l []api.Node, node int, rules []sheet.Rule, seen []string) [value.Many]claims {
	var claimed [value.Many]claims
	place := 0
	for _, r := range rules {
		weight, is := weightFor(l, node, r.Sels, seen)
		for _, d := range r.Decls {
			place++
			if is && isProp(d.Prop) {
				heap.Push(&claimed[d.Prop], claim{decl: d, weight: weight, place: place})
			}
		}
	}
	return claimed
}

// weightFor tells the greatest weight of the selectors that are for a node, if one is.
func weightFor(l []api.Node, node int, sels []selector.Selector, seen []string) (int, bool) {
	greatest, isAny := 0, false
	for _, x := range sels {
		if match.Is(l, node, x, seen) {
			greatest, isAny = max(greatest, selector.Weight(x)), true
		}
	}
	return greatest, isAny
}
