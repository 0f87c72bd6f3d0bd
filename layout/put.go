package layout

import (
	"scrim/api"
	"scrim/rect"
	"scrim/value"
)

// put puts a box where its border begins, and all that stands in it. Boxes are gone through in their order, so that the fragments are in theirs.
func (p *page) put(at int, begin spot) {
	r := &p.result.Rects[at]
	r.X, r.Y = begin.x, begin.y
	border, padding := p.sides(at).Border, p.sides(at).Padding
	content := spot{x: p.sum(begin.x, border[left], padding[left]), y: p.sum(begin.y, border[top], padding[top])}
	for _, f := range p.lines[at] {
		f.Rect.X, f.Rect.Y = p.add(content.x, f.Rect.X), p.add(content.y, f.Rect.Y)
		p.result.Frags = append(p.result.Frags, f)
	}
	for _, kid := range p.kids(at) {
		p.put(kid, p.moved(kid, p.behind(content, p.begins[kid])))
	}
}

func (p *page) behind(a, b spot) spot { return spot{x: p.add(a.x, b.x), y: p.add(a.y, b.y)} }

// moved tells where a box begins that is moved by its Left and Top.
func (p *page) moved(at int, begin spot) spot {
	return p.behind(begin, spot{x: p.styles[at][value.Left].N, y: p.styles[at][value.Top].N})
}

// unite tells the places of boxes that stand in lines.
func (p *page) unite() {
	parts := map[int][]api.Rect{}
	for _, f := range p.result.Frags {
		for _, at := range p.inLines(f.Box) {
			parts[at] = append(parts[at], f.Rect)
		}
	}
	for at, b := range p.scene.Boxes {
		if standsInBlocks(b.Kind) {
			continue
		}
		all, exact := rect.Union(parts[at]...)
		p.result.Rects[at] = all
		p.note(exact)
	}
}

// inLines tells a box, and all in which it stands, up to what stands in blocks.
func (p *page) inLines(at int) []int {
	var l []int
	for at >= 0 && !standsInBlocks(p.scene.Boxes[at].Kind) {
		l = append(l, at)
		// What isn't in its order would have no end.
		at = min(p.scene.Boxes[at].Parent, at-1)
	}
	return l
}
