package tree_test

import (
	"math/rand"
	"regexp"
	"slices"
	"testing"

	"scrim/api"
	"scrim/token"
	"scrim/tree"
)

var toldName = regexp.MustCompile(`\A[a-z][a-z0-9-]{0,19}\z`)

// grown is a node as the chapter's words grow it: with its parent and kids themselves, not their places.
type grown struct {
	api.Node
	above *grown
	kids  []*grown
}

func (g *grown) depth() int {
	if g.above == nil {
		return 0
	}
	return g.above.depth() + 1
}

func (g *grown) count() int {
	n := 1
	for _, k := range g.kids {
		n += k.count()
	}
	return n
}

// list lays what was grown behind l.
func (g *grown) list(parent int, l []api.Node) []api.Node {
	at := len(l)
	n := g.Node
	n.Parent, n.Kids = parent, nil
	l = append(l, n)
	for _, k := range g.kids {
		l[at].Kids = append(l[at].Kids, len(l))
		l = k.list(at, l)
	}
	return l
}

func mayBeToken(t token.Token) bool {
	if t.Kind == token.Text {
		return true
	}
	if t.Kind != token.Open && t.Kind != token.Close || !toldName.MatchString(t.Name) {
		return false
	}
	for i, a := range t.Attrs {
		twice := slices.ContainsFunc(t.Attrs[:i], func(b api.Attr) bool { return a.Name == b.Name })
		if t.Kind == token.Open && (twice || !toldName.MatchString(a.Name)) {
			return false
		}
	}
	return true
}

// grow does what the chapter's words say, and tells which closings were passed over.
func grow(tokens []token.Token) ([]api.Node, api.Errno, []int) {
	root := &grown{Node: api.Node{Tag: "root"}}
	place := root
	var passed []int
	for i, t := range tokens {
		if !mayBeToken(t) {
			return nil, api.ErrForm, nil
		}
		var kid *grown
		switch {
		case t.Kind == token.Open && t.Name != "root":
			kid = &grown{Node: api.Node{Tag: t.Name, Attrs: t.Attrs}, above: place}
		case t.Kind == token.Text && t.Text != "":
			if n := len(place.kids); n > 0 && place.kids[n-1].Tag == "" {
				place.kids[n-1].Text += t.Text
			} else {
				kid = &grown{Node: api.Node{Text: t.Text}, above: place}
			}
		case t.Kind == token.Close:
			at := place
			for at.above != nil && at.Tag != t.Name {
				at = at.above
			}
			if at.above == nil {
				passed = append(passed, i)
			} else {
				place = at.above
			}
		}
		if kid == nil {
			continue
		}
		if kid.depth() > 12 {
			return nil, api.ErrDepth, nil
		}
		if place.kids = append(place.kids, kid); root.count() > 60 {
			return nil, api.ErrFull, nil
		}
		if kid.Tag != "" && kid.Tag != "img" {
			place = kid
		}
	}
	return root.list(-1, nil), api.OK, passed
}

// hold holds all that follows of some tokens, and tells what is built.
func hold(t *testing.T, tokens []token.Token) ([]api.Node, api.Errno) {
	t.Helper()
	want, wantErrno, passed := grow(tokens)
	got, e := tree.Build(tokens)
	if show(got) != show(want) || e != wantErrno {
		t.Fatalf("Build(%+v) = %s, %d, want %s, %d", tokens, show(got), e, show(want), wantErrno)
	}
	if e != api.OK {
		return got, e
	}
	if !tree.May(got) {
		t.Fatalf("Build(%+v) = %s, which may not be", tokens, show(got))
	}
	for _, i := range passed {
		less, e := tree.Build(slices.Delete(slices.Clone(tokens), i, i+1))
		if show(less) != show(got) || e != api.OK {
			t.Fatalf("Build(%+v), without token %d, = %s, %d, want %s", tokens, i, show(less), e, show(got))
		}
	}
	return got, e
}

// P5.3

func TestAllShortLists(t *testing.T) {
	some := list(open("p"), open("b", "x", "1"), open("img"), open("root"), shut("p"), shut("b"), shut("img"), shut("root"), text("x"), text(""), shut("P"))
	for length := range 6 {
		tokens := make([]token.Token, length)
		var fill func(i int)
		fill = func(i int) {
			if i == length {
				hold(t, tokens)
				return
			}
			for _, x := range some {
				tokens[i] = x
				fill(i + 1)
			}
		}
		fill(0)
	}
}

// someTokens are many, of which few close, or more.
func someTokens(some *rand.Rand) []token.Token {
	names := []string{"p", "b", "p", "img", "a-1", "root"}
	closings := some.Intn(4)
	var tokens []token.Token
	for range some.Intn(180) {
		name := names[some.Intn(len(names))]
		switch k := some.Intn(8); {
		case k < closings:
			tokens = append(tokens, shut(name))
		case k < 6:
			tokens = append(tokens, open(name, "x", "1"))
		default:
			tokens = append(tokens, text("xyz"[:some.Intn(4)]))
		}
		if some.Intn(400) == 0 {
			l := wrong()
			tokens = append(tokens, l[some.Intn(len(l))])
		}
	}
	return tokens
}

func TestLongLists(t *testing.T) {
	some := rand.New(rand.NewSource(5))
	ends := map[api.Errno]int{}
	for range 6000 {
		_, e := hold(t, someTokens(some))
		ends[e]++
	}
	for _, e := range []api.Errno{api.OK, api.ErrForm, api.ErrDepth, api.ErrFull} {
		if ends[e] < 50 {
			t.Errorf("no more than %d lists end with %d", ends[e], e)
		}
	}
}

// mayBe asks the chapter's words: the Kids are gone through from the root on, as far as they are there.
func mayBe(l []api.Node) bool {
	if len(l) == 0 || len(l) > 60 || l[0].Parent != -1 || l[0].Tag != "root" || len(l[0].Attrs) > 0 || l[0].Text != "" {
		return false
	}
	next := 1
	var inOrder func(at, depth int) bool
	inOrder = func(at, depth int) bool {
		if depth > 12 {
			return false
		}
		for i, k := range l[at].Kids {
			if k != next || k >= len(l) || l[k].Parent != at || i > 0 && l[k].Tag == "" && l[l[at].Kids[i-1]].Tag == "" {
				return false
			}
			if next++; !inOrder(k, depth+1) {
				return false
			}
		}
		return true
	}
	if !inOrder(0, 0) || next != len(l) {
		return false
	}
	for _, n := range l[1:] {
		isText := n.Tag == ""
		if isText != (n.Text != "") || isText && len(n.Attrs)+len(n.Kids) > 0 || !isText && !toldName.MatchString(n.Tag) {
			return false
		}
		if n.Tag == "root" || n.Tag == "img" && len(n.Kids) > 0 || !mayBeToken(token.Token{Kind: token.Open, Name: "p", Attrs: n.Attrs}) {
			return false
		}
	}
	return true
}

// turnSome changes something of a document.
func turnSome(some *rand.Rand, l []api.Node) []api.Node {
	n := &l[some.Intn(len(l))]
	place := some.Intn(len(l)+2) - 1
	switch some.Intn(8) {
	case 0:
		n.Parent = place
	case 1:
		n.Kids = append(n.Kids, place)
	case 2:
		if len(n.Kids) > 0 {
			n.Kids[some.Intn(len(n.Kids))] = place
		}
	case 3:
		n.Tag = []string{"", "p", "img", "root", "P"}[some.Intn(5)]
	case 4:
		n.Text = "x"[:some.Intn(2)]
	case 5:
		n.Attrs = append(n.Attrs, api.Attr{Name: []string{"a", "b", "x", "", "A"}[some.Intn(5)]})
	case 6:
		l = append(l, api.Node{Parent: place, Tag: "p"})
	case 7:
		l = l[:len(l)-1]
	}
	return l
}

func TestMayOfChangedDocuments(t *testing.T) {
	some := rand.New(rand.NewSource(6))
	seen := map[bool]int{}
	for range 60000 {
		tokens := someTokens(some)
		l, e := tree.Build(tokens[:min(len(tokens), 12)])
		if e != api.OK {
			continue
		}
		for range 1 + some.Intn(2) {
			if len(l) > 0 {
				l = turnSome(some, l)
			}
		}
		may := tree.May(l)
		if may != mayBe(l) {
			t.Fatalf("May(%s) = %v", show(l), may)
		}
		seen[may]++
	}
	if seen[true] < 1000 || seen[false] < 1000 {
		t.Errorf("%v", seen)
	}
}

func TestReadIsBuildOfTheTokens(t *testing.T) {
	for _, s := range []string{"", "a", "<p>a<p>b</p>c", "a<b x=\"1\">c</b></i>d<img>", "</p><root>x"} {
		tokens, _ := token.Read(s)
		want, _ := hold(t, tokens)
		if got, e := tree.Read(s); show(got) != show(want) || e != api.OK {
			t.Errorf("Read(%q) = %s, %d, want %s", s, show(got), e, show(want))
		}
	}
}

func TestWhatIsAboveIsLessDeep(t *testing.T) {
	some := rand.New(rand.NewSource(7))
	for range 2000 {
		l, _ := tree.Build(someTokens(some))
		for at := 1; at < len(l); at++ {
			if tree.Depth(l, at) != tree.Depth(l, l[at].Parent)+1 {
				t.Fatalf("%s: Depth of %d is %d", show(l), at, tree.Depth(l, at))
			}
		}
	}
}
