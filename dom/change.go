package dom

import (
	"slices"

	"scrim/api"
	"scrim/tree"
)

// part is a node that isn't laid yet: it has no place, but all that is to stand in it.
type part struct {
	tag, text string
	attrs     []api.Attr
	kids      []part
}

func (p part) isText() bool { return p.tag == "" }

// change lays a document anew, where do tells what stands in place of a node. One that may not be is refused, since it might have no end.
func change(l []api.Node, node int, do func(p part) []part) ([]api.Node, api.Errno) {
	if !tree.May(l) {
		return nil, api.ErrArg
	}
	var parts func(at int) []part
	parts = func(at int) []part {
		p := part{tag: l[at].Tag, text: l[at].Text, attrs: slices.Clone(l[at].Attrs)}
		for _, kid := range l[at].Kids {
			p.kids = append(p.kids, parts(kid)...)
		}
		if at == node {
			return do(p)
		}
		return []part{p}
	}
	return lay(parts(0)[0])
}

// lay lays a document of its root, put in order.
func lay(root part) ([]api.Node, api.Errno) {
	var l []api.Node
	deepest := 0
	var put func(p part, parent, depth int)
	put = func(p part, parent, depth int) {
		at := len(l)
		l = append(l, api.Node{Parent: parent, Tag: p.tag, Text: p.text, Attrs: p.attrs})
		deepest = max(deepest, depth)
		for _, kid := range inOrder(p.kids) {
			l[at].Kids = append(l[at].Kids, len(l))
			put(kid, at, depth+1)
		}
	}
	put(root, -1, 0)
	if deepest > api.MostDepth {
		return nil, api.ErrDepth
	}
	if len(l) > api.MostNodes || len(written(l)) > api.MostBytes {
		return nil, api.ErrFull
	}
	return l, api.OK
}

// inOrder tells kids without empty texts, and with one text in place of those that stand side by side.
func inOrder(kids []part) []part {
	var l []part
	for _, p := range kids {
		last := len(l) - 1
		switch {
		case !p.isText() || p.text != "" && (last < 0 || !l[last].isText()):
			l = append(l, p)
		case p.text != "":
			l[last].text += p.text
		}
	}
	return l
}
