package paint

import (
	"scrim/api"
	"scrim/box"
	"scrim/cascade"
	"scrim/dom"
	"scrim/layout"
	"scrim/measure"
	"scrim/res"
	"scrim/value"
)

const srcName = "src"

// painter paints boxes and fragments of a scene. Of what isn't there it paints nothing.
type painter struct {
	scene   measure.Scene
	painted []cascade.Style
	rects   []api.Rect
}

func (p painter) fill(at int, b box.Box) (Item, bool) {
	isFilled := b.Kind == box.Block || b.Kind == box.Flex || b.Kind == box.Inline
	if !isFilled || at >= len(p.rects) || !p.isStyled(b.Node) {
		return Item{}, false
	}
	return Item{Kind: Fill, Rect: p.rects[at], Color: p.painted[b.Node][value.Background].N}, true
}

func (p painter) fragment(_ int, f layout.Frag) (Item, bool) {
	if f.Box < 0 || f.Box >= len(p.scene.Boxes) {
		return Item{}, false
	}
	b := p.scene.Boxes[f.Box]
	switch {
	case b.Kind == box.Text && p.isStyled(b.Node):
		return p.text(f, b.Node), true
	case b.Kind == box.Image:
		return p.picture(f, b.Node), true
	}
	return Item{}, false
}

// text paints letters as wide as they are: what is painted isn't told to scripts.
func (p painter) text(f layout.Frag, node int) Item {
	return Item{Kind: Text, Rect: f.Rect, Color: p.painted[node][value.Color].N, Text: f.Text, Wide: p.scene.Table.Font.Advance}
}

func (p painter) picture(f layout.Frag, node int) Item {
	src, _ := dom.Get(p.scene.Doc, node, srcName)
	wide, high, _ := res.True(p.scene.Table, src)
	return Item{Kind: Picture, Rect: f.Rect, Text: src, Wide: wide, High: high}
}

func (p painter) isStyled(node int) bool { return node >= 0 && node < len(p.painted) }
