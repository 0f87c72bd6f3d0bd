package tree

import (
	"slices"

	"scrim/api"
	"scrim/token"
)

// May tells whether a document may be.
func May(l []api.Node) bool {
	if len(l) == 0 || len(l) > api.MostNodes || !mayRoot(l[0]) {
		return false
	}
	for at := 1; at < len(l); at++ {
		if !standsWell(l, at) || !mayNode(l[at]) {
			return false
		}
	}
	return kidsTellTheSame(l) && !textsStandSideBySide(l)
}

func mayRoot(n api.Node) bool {
	return n.Parent == -1 && n.Tag == rootTag && n.Text == "" && len(n.Attrs) == 0
}

// standsWell tells whether a node is in its order behind those ahead of it, if they are: its parent is the last one of these, or one above that.
func standsWell(l []api.Node, at int) bool {
	for above := range upFrom(l, at-1) {
		if above == l[at].Parent {
			return Depth(l, above) < api.MostDepth
		}
	}
	return false
}

// mayNode tells whether a node other than the root may be, wherever it stands.
func mayNode(n api.Node) bool {
	if n.Tag == "" {
		return n.Text != "" && len(n.Attrs) == 0 && len(n.Kids) == 0
	}
	if n.Tag == imageTag && len(n.Kids) != 0 {
		return false
	}
	return token.Name(n.Tag) && n.Tag != rootTag && n.Text == "" && mayAttrs(n.Attrs)
}

func mayAttrs(l []api.Attr) bool {
	seen := map[string]int{}
	for _, a := range l {
		seen[a.Name]++
		if !token.Name(a.Name) || seen[a.Name] > 1 {
			return false
		}
	}
	return true
}

// kidsTellTheSame holds all Kids against all Parents, which are known to be there.
func kidsTellTheSame(l []api.Node) bool {
	kids := make([][]int, len(l))
	for at := 1; at < len(l); at++ {
		kids[l[at].Parent] = append(kids[l[at].Parent], at)
	}
	for at, n := range l {
		if !slices.Equal(n.Kids, kids[at]) {
			return false
		}
	}
	return true
}

func textsStandSideBySide(l []api.Node) bool {
	for _, n := range l {
		for i := 1; i < len(n.Kids); i++ {
			if l[n.Kids[i-1]].Tag == "" && l[n.Kids[i]].Tag == "" {
				return true
			}
		}
	}
	return false
}
