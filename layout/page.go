package layout

import (
	"scrim/api"
	"scrim/block"
	"scrim/box"
	"scrim/cascade"
	"scrim/flex"
	"scrim/measure"
	"scrim/value"
)

const root = 0

// Where sides stand in an array.
const (
	top    = 0
	right  = 1
	bottom = 2
	left   = 3
)

// spot is where something begins.
type spot struct{ x, y int64 }

// page is a scene that is laid: first all boxes are told how wide and high they are, and where they begin in their parents' contents; from that all places follow.
type page struct {
	tally
	scene  measure.Scene
	styles []cascade.Style
	begins map[int]spot   // of a box in blocks: of its border, in its parent's content
	lines  map[int][]Frag // of a box that has lines: in its content
	result Result
}

func pageOf(s measure.Scene) *page {
	p := page{scene: s, begins: map[int]spot{}, lines: map[int][]Frag{}}
	p.styles = make([]cascade.Style, len(s.Boxes))
	for at := range s.Boxes {
		p.styles[at] = Style(s, at)
	}
	p.result.Rects = make([]api.Rect, len(s.Boxes))
	return &p
}

// kids tells a box's kids that stand in blocks. What isn't in its order is passed over, since there might be no end.
func (p *page) kids(at int) []int {
	var kids []int
	last := at
	for _, kid := range p.scene.Boxes[at].Kids {
		if kid <= last || kid >= len(p.scene.Boxes) {
			continue
		}
		last = kid
		if b := p.scene.Boxes[kid]; b.Parent == at && standsInBlocks(b.Kind) {
			kids = append(kids, kid)
		}
	}
	return kids
}

// inOrder tells a box's kids by their Orders.
func (p *page) inOrder(at int) []int {
	kids := p.kids(at)
	var orders []int64
	for _, kid := range kids {
		orders = append(orders, p.styles[kid][value.Order].N)
	}
	var ordered []int
	for _, i := range flex.Order(orders) {
		ordered = append(ordered, kids[i])
	}
	return ordered
}

func (p *page) pieces(at int) []measure.Piece {
	l, exact := measure.Pieces(p.scene, at)
	p.note(exact)
	return l
}

func (p *page) sides(at int) block.Sides { return block.Of(p.styles[at]) }

func (p *page) isRow(at int) bool {
	return p.scene.Boxes[at].Kind == box.Flex && p.styles[at][value.Direction].N == value.Row
}
