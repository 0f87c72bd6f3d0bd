package box_test

import (
	"math/rand"
	"slices"
	"strings"
	"testing"

	"scrim/api"
	"scrim/box"
	"scrim/cascade"
	"scrim/tree"
	"scrim/value"
)

// one is a box that the chapter's words tell, with all in it.
type one struct {
	node, kind int
	kids       []one
}

func isShown(l []api.Node, styles []cascade.Style, node int) bool {
	return l[node].Tag == "" || styles[node][value.Display].N != 3
}

// sortByWords tells a node's sort.
func sortByWords(l []api.Node, styles []cascade.Style, node int) int {
	n := styles[node][value.Display].N
	switch {
	case l[node].Tag == "":
		return box.Text
	case l[node].Tag == "img":
		return box.Image
	case n == 0:
		return box.Block
	case n == 2:
		return box.Flex
	}
	return box.Inline
}

// byWords tells a node's box of a kind: each kid is told a letter first, and letters that stand side by side are runs.
func byWords(l []api.Node, styles []cascade.Style, node, kind int) one {
	b := one{node: node, kind: kind}
	var kids []int
	letters := ""
	for _, kid := range l[node].Kids {
		if !isShown(l, styles, kid) {
			continue
		}
		kids = append(kids, kid)
		sort := sortByWords(l, styles, kid)
		switch {
		case sort == box.Block || sort == box.Flex || sort == box.Inline && kind == box.Flex:
			letters += "B"
		case sort == box.Text && strings.Trim(l[kid].Text, " \t\n\r") == "":
			letters += " "
		default:
			letters += "x"
		}
	}
	kidIn := func(kid int) one {
		sort := sortByWords(l, styles, kid)
		switch {
		case kind == box.Inline && sort < box.Inline:
			sort = box.Inline
		case kind == box.Flex && sort == box.Inline:
			sort = box.Block
		}
		return byWords(l, styles, kid, sort)
	}
	inLine := func(kid int) one { return byWords(l, styles, kid, sortByWords(l, styles, kid)) }
	runs := kind == box.Flex || kind == box.Block && strings.Contains(letters, "B")
	for i := 0; i < len(kids); i++ {
		if !runs || letters[i] == 'B' {
			b.kids = append(b.kids, kidIn(kids[i]))
			continue
		}
		end := i + strings.IndexByte(letters[i:]+"B", 'B')
		if strings.Contains(letters[i:end], "x") {
			anon := one{node: node, kind: box.Anon}
			for _, kid := range kids[i:end] {
				anon.kids = append(anon.kids, inLine(kid))
			}
			b.kids = append(b.kids, anon)
		}
		i = end - 1
	}
	return b
}

// inOrder lays boxes behind all.
func inOrder(l []box.Box, b one, parent int) []box.Box {
	at := len(l)
	l = append(l, box.Box{Node: b.node, Kind: b.kind, Parent: parent})
	for _, kid := range b.kids {
		l[at].Kids = append(l[at].Kids, len(l))
		l = inOrder(l, kid, at)
	}
	return l
}

func equal(a, b box.Box) bool {
	return a.Node == b.Node && a.Kind == b.Kind && a.Parent == b.Parent && slices.Equal(a.Kids, b.Kids)
}

// somePage is a document, and a style of each node with any Display.
func somePage(some *rand.Rand) ([]api.Node, []cascade.Style) {
	parts := []string{"<b>", "<b>", "<i>", "<u>", "<img>", "x", " ", "\n", "</b>", "</i>", "</u>", "</b>"}
	for {
		var s strings.Builder
		for range some.Intn(40) {
			s.WriteString(parts[some.Intn(len(parts))])
		}
		l, e := tree.Read(s.String())
		if e != api.OK {
			continue
		}
		styles := make([]cascade.Style, len(l))
		displays := []int64{0, 1, 2, 0, 1, 3, 4, -1}[:2+some.Intn(7)]
		for i := range styles {
			styles[i][value.Display] = api.Value{Kind: some.Intn(8), N: displays[some.Intn(len(displays))]}
		}
		return l, styles
	}
}

// P14.2

func TestManyPages(t *testing.T) {
	some := rand.New(rand.NewSource(14))
	kinds := map[int]int{}
	for range 20000 {
		l, styles := somePage(some)
		boxes := build(t, l, styles)
		want := inOrder(nil, byWords(l, styles, 0, box.Block), -1)
		if !slices.EqualFunc(boxes, want, equal) {
			t.Fatalf("%+v, %v: %s, want %s", l, styles, told(boxes), told(want))
		}
		for _, b := range boxes {
			kinds[b.Kind]++
		}
		holdPage(t, l, styles, boxes)
	}
	for kind := box.Block; kind <= box.Image; kind++ {
		if kinds[kind] < 1000 {
			t.Errorf("no more than %d of kind %d", kinds[kind], kind)
		}
	}
}

// holdPage holds what follows of any page.
func holdPage(t *testing.T, l []api.Node, styles []cascade.Style, boxes []box.Box) {
	t.Helper()
	standWell(t, told(boxes), boxes)
	of := make([]int, len(l))
	for _, b := range boxes {
		if b.Kind != box.Anon {
			of[b.Node]++
		}
	}
	for node, n := range l {
		isIn := true
		for at := node; at > 0; at = l[at].Parent {
			isIn = isIn && isShown(l, styles, at)
		}
		isBlank := n.Tag == "" && strings.Trim(n.Text, " \t\n\r") == ""
		switch {
		case !isIn && of[node] != 0:
			t.Fatalf("%d isn't shown, and has %d boxes of %s", node, of[node], told(boxes))
		case isIn && (of[node] > 1 || of[node] == 0 && !isBlank):
			t.Fatalf("%d has %d boxes of %s", node, of[node], told(boxes))
		}
	}
	for at, b := range boxes {
		blocks, lines := 0, 0
		for _, kid := range b.Kids {
			switch boxes[kid].Kind {
			case box.Block, box.Flex, box.Anon:
				blocks++
			default:
				lines++
			}
		}
		if blocks > 0 && lines > 0 || box.Lines(boxes, at) != (lines > 0 && (b.Kind == box.Block || b.Kind == box.Anon)) {
			t.Fatalf("%d has %d kids in blocks, %d in lines, Lines %v, of %s", at, blocks, lines, box.Lines(boxes, at), told(boxes))
		}
	}
}

func TestAnswersShareNothing(t *testing.T) {
	l, styles := read(t, "x<b>y<i>z</i></b> <f><i></i>x</f>", sorts)
	keptNodes, keptStyles := tree.Copy(l), slices.Clone(styles)
	one, two := build(t, l, styles), build(t, l, styles)
	text := told(two)
	for at := range one {
		box.Lines(one, at)
	}
	if told(one) != text {
		t.Errorf("asked, it is %s", told(one))
	}
	for at := range one {
		for k := range one[at].Kids {
			one[at].Kids[k] = -9
		}
		one[at].Kids = append(one[at].Kids, 99)
	}
	clear(one)
	standWell(t, "another answer", two)
	if told(two) != text || !slices.Equal(styles, keptStyles) || !tree.May(l) || len(l) != len(keptNodes) {
		t.Errorf("another answer is now %s", told(two))
	}
	if got := build(t, keptNodes, keptStyles); told(got) != text {
		t.Errorf("of the same: %s, want %s", told(got), text)
	}
	// Kids of two boxes share no memory.
	for at := range two {
		two[at].Kids = append(two[at].Kids, -9)
	}
	for at := range two {
		two[at].Kids = two[at].Kids[:len(two[at].Kids)-1]
	}
	standWell(t, "with more behind", two)
}
