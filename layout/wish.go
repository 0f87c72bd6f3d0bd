package layout

import (
	"slices"

	"scrim/api"
	"scrim/block"
	"scrim/box"
	"scrim/measure"
	"scrim/value"
)

// wish tells how wide the content of a box in blocks can be.
func (p *page) wish(at int) int64 {
	if box.Lines(p.scene.Boxes, at) {
		return p.number(measure.Max(p.pieces(at)))
	}
	var outer []int64
	for _, kid := range p.kids(at) {
		outer = append(outer, p.outerWish(kid))
	}
	if p.isRow(at) {
		return p.sum(outer...)
	}
	return slices.Max(append(outer, 0))
}

func (p *page) outerWish(at int) int64 {
	wide := p.styles[at][value.Width].N
	if p.styles[at][value.Width].Kind != api.Length {
		wide = p.wish(at)
	}
	return p.add(wide, p.across(at))
}

func (p *page) across(at int) int64 { return p.number(block.Across(p.sides(at))) }
