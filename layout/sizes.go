package layout

import (
	"scrim/api"
	"scrim/block"
	"scrim/box"
	"scrim/flex"
	"scrim/line"
	"scrim/value"
)

func (p *page) layRoot(room int64) {
	p.layBorder(root, p.number(block.Width(p.styles[root], room)))
}

// layBorder lays a box whose content is so wide: its border's size, and what stands in it.
func (p *page) layBorder(at int, wide int64) {
	high := block.Height(p.styles[at], p.layContent(at, wide))
	border, padding := p.sides(at).Border, p.sides(at).Padding
	r := &p.result.Rects[at]
	r.W = p.sum(wide, border[left], border[right], padding[left], padding[right])
	r.H = p.sum(high, border[top], border[bottom], padding[top], padding[bottom])
}

// layContent lays what stands in a box, and tells how high that is.
func (p *page) layContent(at int, wide int64) int64 {
	lay := p.layBlocks
	switch {
	case box.Lines(p.scene.Boxes, at):
		lay = p.layLines
	case p.isRow(at):
		lay = p.layRow
	case p.scene.Boxes[at].Kind == box.Flex:
		lay = p.layColumn
	}
	return lay(at, wide)
}

func (p *page) layLines(at int, wide int64) int64 {
	pieces := p.pieces(at)
	places, high, exact := line.Fill(pieces, wide, p.styles[at][value.TextAlign].N)
	for _, place := range places {
		piece := pieces[place.Piece]
		p.lines[at] = append(p.lines[at], Frag{Box: piece.Box, Text: piece.Text, Rect: place.Rect})
	}
	return p.number(high, exact)
}

func (p *page) layBlocks(at int, wide int64) int64 {
	kids := p.kids(at)
	var items []block.Item
	for _, kid := range kids {
		p.layAcross(kid, wide)
		margin := p.sides(kid).Margin
		items = append(items, block.Item{Top: margin[top], High: p.result.Rects[kid].H, Bottom: margin[bottom]})
	}
	downs, high, exact := block.Stack(items)
	for i, kid := range kids {
		p.begins[kid] = spot{x: p.begins[kid].x, y: downs[i]}
	}
	return p.number(high, exact)
}

// layAcross lays a kid as wide as it is in a room, and where it begins across.
func (p *page) layAcross(kid int, room int64) {
	wide := p.number(block.Width(p.styles[kid], room))
	p.begins[kid] = spot{x: p.number(block.Shift(p.styles[kid], room, wide))}
	p.layBorder(kid, wide)
}

func (p *page) layRow(at int, wide int64) int64 {
	kids := p.inOrder(at)
	var items []flex.Item
	for _, kid := range kids {
		items = append(items, p.item(kid, wide))
	}
	sizes := p.numbers(flex.Share(items, wide))
	var long []int64
	for i, size := range sizes {
		long = append(long, p.add(size, items[i].Extra))
	}
	var high int64
	for i, begin := range p.justify(at, long, wide) {
		kid := kids[i]
		margin := p.sides(kid).Margin
		p.begins[kid] = spot{x: p.add(begin, margin[left]), y: margin[top]}
		p.layBorder(kid, sizes[i])
		high = max(high, p.outerHigh(kid))
	}
	return high
}

// item tells what a kid of a row is, as its room is shared.
func (p *page) item(kid int, room int64) flex.Item {
	style := p.styles[kid]
	x := flex.Item{Extra: p.across(kid), Grow: style[value.Grow].N, Shrink: style[value.Shrink].N}
	if style[value.Width].Kind == api.Auto {
		x.Base = p.wish(kid)
	} else {
		x.Base = p.number(block.Width(style, room))
	}
	return x
}

func (p *page) layColumn(at int, wide int64) int64 {
	kids := p.inOrder(at)
	var long []int64
	for _, kid := range kids {
		p.layAcross(kid, wide)
		long = append(long, p.outerHigh(kid))
	}
	high := p.sum(long...)
	for i, begin := range p.justify(at, long, block.Height(p.styles[at], high)) {
		kid := kids[i]
		p.begins[kid] = spot{x: p.begins[kid].x, y: p.add(begin, p.sides(kid).Margin[top])}
	}
	return max(high, 0)
}

// justify tells where kids of a box begin that are so long.
func (p *page) justify(at int, long []int64, room int64) []int64 {
	return p.numbers(flex.Justify(long, room, p.styles[at][value.Justify].N))
}

// outerHigh tells how high a border is that was laid, with its margins.
func (p *page) outerHigh(at int) int64 {
	margin := p.sides(at).Margin
	return p.sum(margin[top], p.result.Rects[at].H, margin[bottom])
}
