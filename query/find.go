package query

import (
	"scrim/api"
	"scrim/box"
	"scrim/layout"
	"scrim/measure"
)

// lastBox tells where the last box is that is asked for, of those that have a place.
func lastBox(s measure.Scene, r layout.Result, isIt func(at int, b box.Box) bool) int {
	for at := min(len(s.Boxes), len(r.Rects)) - 1; at >= 0; at-- {
		if isIt(at, s.Boxes[at]) {
			return at
		}
	}
	return none
}

// boxOf tells where a node's box is. It has but one that isn't Anon.
func boxOf(s measure.Scene, r layout.Result, node int) int {
	return lastBox(s, r, func(_ int, b box.Box) bool { return b.Node == node && b.Kind != box.Anon })
}

// standsInBlocks is asked of boxes that aren't Anon, or are no one's.
func standsInBlocks(b box.Box) bool { return b.Kind == box.Block || b.Kind == box.Flex }

// fragsIn tells the places of the fragments of a box, and of the boxes in it: of those from which it is reached upwards.
func fragsIn(boxes []box.Box, at int, frags []layout.Frag) []api.Rect {
	var l []api.Rect
nextFrag:
	for _, f := range frags {
		for up := f.Box; up != at; {
			if up < at || up >= len(boxes) {
				continue nextFrag
			}
			// A parent stands ahead; what isn't in its order would have no end.
			up = min(boxes[up].Parent, up-1)
		}
		l = append(l, f.Rect)
	}
	return l
}
