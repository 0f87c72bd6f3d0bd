package tree

import (
	"slices"

	"scrim/api"
	"scrim/token"
)

// builder is a document that isn't done yet. What a text tells is gathered apart, since it may come in many tokens.
type builder struct {
	nodes []api.Node
	told  [api.MostNodes][]byte
	place int
}

// Build builds a document of tokens.
func Build(tokens []token.Token) ([]api.Node, api.Errno) {
	b := builder{nodes: []api.Node{{Parent: -1, Tag: rootTag}}}
	for _, t := range tokens {
		if errno := b.take(t); errno != api.OK {
			return nil, errno
		}
	}
	for i := range b.nodes {
		b.nodes[i].Text = string(b.told[i])
	}
	return b.nodes, api.OK
}

func (b *builder) take(t token.Token) api.Errno {
	switch {
	case !mayToken(t):
		return api.ErrForm
	case t.Kind == token.Open:
		return b.open(t)
	case t.Kind == token.Text:
		return b.text(t.Text)
	}
	b.close(t.Name)
	return api.OK
}

func mayToken(t token.Token) bool {
	switch t.Kind {
	case token.Open:
		return token.Name(t.Name) && mayAttrs(t.Attrs)
	case token.Close:
		return token.Name(t.Name)
	}
	return t.Kind == token.Text
}

func (b *builder) open(t token.Token) api.Errno {
	if t.Name == rootTag {
		return api.OK
	}
	errno := b.add(api.Node{Tag: t.Name, Attrs: slices.Clone(t.Attrs)})
	if errno == api.OK && t.Name != imageTag {
		b.place = len(b.nodes) - 1
	}
	return errno
}

func (b *builder) close(name string) {
	for at := range upFrom(b.nodes, b.place) {
		if at > 0 && b.nodes[at].Tag == name {
			b.place = b.nodes[at].Parent
			return
		}
	}
}

func (b *builder) text(text string) api.Errno {
	if text == "" {
		return api.OK
	}
	if !b.endsWithText() {
		if errno := b.add(api.Node{}); errno != api.OK {
			return errno
		}
	}
	last := len(b.nodes) - 1
	b.told[last] = append(b.told[last], text...)
	return api.OK
}

// endsWithText tells whether the last kid of the place is a text. If so, it is the last node of all.
func (b *builder) endsWithText() bool {
	kids := b.nodes[b.place].Kids
	return len(kids) > 0 && b.nodes[kids[len(kids)-1]].Tag == ""
}

// add puts a node behind all: the place's last kid.
func (b *builder) add(n api.Node) api.Errno {
	if Depth(b.nodes, b.place) == api.MostDepth {
		return api.ErrDepth
	}
	if len(b.nodes) == api.MostNodes {
		return api.ErrFull
	}
	n.Parent = b.place
	kids := &b.nodes[b.place].Kids
	*kids = append(*kids, len(b.nodes))
	b.nodes = append(b.nodes, n)
	return api.OK
}
