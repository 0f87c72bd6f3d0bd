package measure

import (
	"iter"
	"strings"

	"scrim/api"
	"scrim/box"
	"scrim/dom"
	"scrim/fixed"
	"scrim/res"
	"scrim/value"
)

const (
	blanks  = " \t\n\r"
	srcName = "src"
)

// gatherer is pieces that are gathered from box to box: blanks may stand in another one than the word behind them.
type gatherer struct {
	scene  Scene
	pieces []Piece
	exact  bool
	gap    gap
}

// gap is what blanks behind the last piece would be, if one came behind them.
type gap struct {
	is, exact bool
	width     int64
}

// take takes what stands in a box itself. A box of no node is passed over.
func (g *gatherer) take(at int) {
	b := g.scene.Boxes[at]
	if b.Node < 0 || b.Node >= len(g.scene.Doc) || b.Node >= len(g.scene.Styles) {
		return
	}
	switch b.Kind {
	case box.Text:
		g.takeText(at)
	case box.Image:
		g.takeImage(at)
	}
}

func (g *gatherer) takeText(at int) {
	node := g.scene.Boxes[at].Node
	size := g.scene.Styles[node][value.FontSize].N
	letter, isLetter := fixed.Mul(size, res.Advance(g.scene.Table))
	for run := range runs(g.scene.Doc[node].Text) {
		if isBlank(run) {
			g.gap = gap{is: true, exact: isLetter, width: letter}
			continue
		}
		w, is := fixed.Mul(letter, int64(len(run))*api.Unit)
		g.put(Piece{Box: at, W: w, H: size, Text: run}, is && isLetter)
	}
}

func (g *gatherer) takeImage(at int) {
	node := g.scene.Boxes[at].Node
	style := g.scene.Styles[node]
	var w, h int64
	if src, is := dom.Get(g.scene.Doc, node, srcName); is {
		w, h, _ = res.Size(g.scene.Table, src)
	}
	g.put(Piece{Box: at, W: lengthOr(style[value.Width], w), H: lengthOr(style[value.Height], h)}, true)
}

func lengthOr(v api.Value, n int64) int64 {
	if v.Kind == api.Length {
		return v.N
	}
	return n
}

// put puts a piece behind all, with what stands ahead of it. There is none ahead of the first one.
func (g *gatherer) put(p Piece, exact bool) {
	g.exact = g.exact && exact
	if last := len(g.pieces) - 1; last >= 0 {
		if g.gap.is {
			p.Gap, g.exact = g.gap.width, g.exact && g.gap.exact
		}
		p.Break = g.gap.is || g.isImage(p) || g.isImage(g.pieces[last])
	}
	g.gap = gap{}
	g.pieces = append(g.pieces, p)
}

func (g *gatherer) isImage(p Piece) bool { return g.scene.Boxes[p.Box].Kind == box.Image }

// runs yields the words of a text, and what is between them, about them, too.
func runs(s string) iter.Seq[string] {
	return func(yield func(run string) bool) {
		for left := s; left != ""; {
			end := strings.IndexAny(left, blanks)
			if end < 0 {
				end = len(left)
			}
			if end == 0 {
				end = len(left) - len(strings.TrimLeft(left, blanks))
			}
			if !yield(left[:end]) {
				return
			}
			left = left[end:]
		}
	}
}

func isBlank(run string) bool { return strings.Trim(run, blanks) == "" }
