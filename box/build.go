package box

import (
	"slices"

	"scrim/api"
	"scrim/cascade"
	"scrim/scan"
	"scrim/value"
)

const imageTag = "img"

// builder is boxes that aren't done yet.
type builder struct {
	nodes  []api.Node
	styles []cascade.Style
	boxes  []Box
}

// put puts an empty box behind all: its parent's last kid.
func (b *builder) put(node, kind, parent int) int {
	at := len(b.boxes)
	b.boxes = append(b.boxes, Box{Node: node, Kind: kind, Parent: parent})
	if parent >= 0 {
		b.boxes[parent].Kids = append(b.boxes[parent].Kids, at)
	}
	return at
}

// lay lays a node's box, and all that stands in it.
func (b *builder) lay(node, kind, parent int) {
	at := b.put(node, kind, parent)
	kids := b.shownKids(node)
	standsInBlocks := func(kid int) bool { return !standsInLines(b.sort(kid)) }
	switch {
	case kind == Inline, kind == Block && !slices.ContainsFunc(kids, standsInBlocks):
		b.layInLines(kids, at)
	case kind == Block, kind == Flex:
		b.layInBlocks(kids, at)
	}
}

// layInLines lays kids as if all of them stood in lines.
func (b *builder) layInLines(kids []int, parent int) {
	for _, kid := range kids {
		kind := b.sort(kid)
		if !standsInLines(kind) {
			kind = Inline
		}
		b.lay(kid, kind, parent)
	}
}

// layInBlocks lays kids that stand in blocks, and a box of its own about each run of others.
func (b *builder) layInBlocks(kids []int, parent int) {
	var run []int
	endRun := func() {
		if !b.isBlank(run) {
			b.layInLines(run, b.put(b.boxes[parent].Node, Anon, parent))
		}
		run = nil
	}
	for _, kid := range kids {
		kind := b.sort(kid)
		if kind == Inline && b.boxes[parent].Kind == Flex {
			kind = Block
		}
		if standsInLines(kind) {
			run = append(run, kid)
			continue
		}
		endRun()
		b.lay(kid, kind, parent)
	}
	endRun()
}

// isBlank tells whether there is nothing but blanks in nodes.
func (b *builder) isBlank(nodes []int) bool {
	return !slices.ContainsFunc(nodes, func(at int) bool {
		return b.sort(at) != Text || scan.Trim(b.nodes[at].Text) != ""
	})
}

// shownKids tells a node's kids that are shown. What isn't in its order is passed over, since there might be no end.
func (b *builder) shownKids(node int) []int {
	var kids []int
	last := node
	for _, kid := range b.nodes[node].Kids {
		if kid <= last || kid >= len(b.nodes) || b.nodes[kid].Parent != node {
			continue
		}
		last = kid
		if b.sort(kid) == Text || b.display(kid) != value.Hidden {
			kids = append(kids, kid)
		}
	}
	return kids
}

// sort tells of which sort a node is, by the kinds of boxes.
func (b *builder) sort(node int) int {
	switch b.nodes[node].Tag {
	case "":
		return Text
	case imageTag:
		return Image
	}
	switch b.display(node) {
	case value.Block:
		return Block
	case value.Flex:
		return Flex
	}
	return Inline
}

func (b *builder) display(node int) int64 { return b.styles[node][value.Display].N }
