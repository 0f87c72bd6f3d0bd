package tree_test

import (
	"slices"
	"strconv"
	"strings"
	"testing"

	"scrim/api"
	"scrim/token"
	"scrim/tree"
)

func open(name string, l ...string) token.Token {
	t := token.Token{Kind: token.Open, Name: name}
	for i := 0; i+1 < len(l); i += 2 {
		t.Attrs = append(t.Attrs, api.Attr{Name: l[i], Value: l[i+1]})
	}
	return t
}

func shut(name string) token.Token { return token.Token{Kind: token.Close, Name: name} }

func text(s string) token.Token { return token.Token{Kind: token.Text, Text: s} }

func list(l ...token.Token) []token.Token { return l }

func many(t token.Token, n int) []token.Token { return slices.Repeat(list(t), n) }

// show tells a document as a line: each node's place, its parent's, and what it is.
func show(l []api.Node) string {
	var s strings.Builder
	for i, n := range l {
		s.WriteString(strconv.Itoa(n.Parent) + "/" + strconv.Itoa(i) + " " + n.Tag)
		if n.Text != "" || n.Tag == "" {
			s.WriteString(strconv.Quote(n.Text))
		}
		for _, a := range n.Attrs {
			s.WriteString(" " + a.Name + "=" + strconv.Quote(a.Value))
		}
		for _, k := range n.Kids {
			s.WriteString(" " + strconv.Itoa(k))
		}
		s.WriteString("; ")
	}
	return strings.TrimSuffix(s.String(), "; ")
}

// building is tokens, and what is built of them.
type building struct {
	tokens []token.Token
	want   string
}

func check(t *testing.T, l []building) {
	t.Helper()
	for _, c := range l {
		if got, e := tree.Build(c.tokens); show(got) != c.want || e != api.OK {
			t.Errorf("Build(%+v) = %s, %d, want %s", c.tokens, show(got), e, c.want)
		}
	}
}

// refuse holds that tokens are refused by an error, with nothing beside it.
func refuse(t *testing.T, want api.Errno, tokens ...token.Token) {
	t.Helper()
	if got, e := tree.Build(tokens); len(got) != 0 || e != want {
		t.Errorf("Build(%+v) = %s, %d, want %d", tokens, show(got), e, want)
	}
}

var name21 = strings.Repeat("a", 21)

// P5.1

func TestBuildOpenings(t *testing.T) {
	check(t, []building{
		{nil, "-1/0 root"},
		{list(), "-1/0 root"},
		{list(open("p")), "-1/0 root 1; 0/1 p"},
		{list(open("p"), open("b")), "-1/0 root 1; 0/1 p 2; 1/2 b"},
		{list(open("p", "id", "A", "x", "")), `-1/0 root 1; 0/1 p id="A" x=""`},
		{list(open(name21[1:])), "-1/0 root 1; 0/1 " + name21[1:]},
		// An image is never the place.
		{list(open("img"), open("p")), "-1/0 root 1 2; 0/1 img; 0/2 p"},
		{list(open("img", "src", "u"), text("x"), open("img")), `-1/0 root 1 2 3; 0/1 img src="u"; 0/2 "x"; 0/3 img`},
		{list(open("p"), open("img"), open("b"), open("img"), text("x")), `-1/0 root 1; 0/1 p 2 3; 1/2 img; 1/3 b 4 5; 3/4 img; 3/5 "x"`},
		// One of the name root counts as none.
		{list(open("root")), "-1/0 root"},
		{list(open("root"), open("p")), "-1/0 root 1; 0/1 p"},
		{list(text("a"), open("root", "id", "x"), text("b")), `-1/0 root 1; 0/1 "ab"`},
		{list(open("p"), open("root"), shut("root"), text("b")), `-1/0 root 1; 0/1 p 2; 1/2 "b"`},
		// What else a token has counts for nothing.
		{list(token.Token{Kind: token.Open, Name: "p", Text: "x"}), "-1/0 root 1; 0/1 p"},
		{list(open("p", "a", "<\"&\xff")), `-1/0 root 1; 0/1 p a="<\"&\xff"`},
	})
}

func TestBuildClosings(t *testing.T) {
	check(t, []building{
		{list(open("p"), shut("p"), open("b")), "-1/0 root 1 2; 0/1 p; 0/2 b"},
		// The nearest one, though it isn't the place.
		{list(open("p"), open("b"), open("i"), shut("p"), open("u")), "-1/0 root 1 4; 0/1 p 2; 1/2 b 3; 2/3 i; 0/4 u"},
		{list(open("p"), open("p"), shut("p"), open("b")), "-1/0 root 1; 0/1 p 2 3; 1/2 p; 1/3 b"},
		{list(open("p"), open("b"), open("p"), open("i"), shut("p"), open("u")), "-1/0 root 1; 0/1 p 2; 1/2 b 3 5; 2/3 p 4; 3/4 i; 2/5 u"},
		{list(open("p"), open("p"), shut("p"), shut("p"), open("b")), "-1/0 root 1 3; 0/1 p 2; 1/2 p; 0/3 b"},
		// What isn't open is passed over, as are the root, and an image.
		{list(shut("p")), "-1/0 root"},
		{list(open("p"), shut("b"), open("i")), "-1/0 root 1; 0/1 p 2; 1/2 i"},
		{list(open("p"), shut("p"), shut("p"), open("b")), "-1/0 root 1 2; 0/1 p; 0/2 b"},
		{list(shut("root"), open("p"), shut("root"), open("b")), "-1/0 root 1; 0/1 p 2; 1/2 b"},
		{list(open("p"), open("img"), shut("img"), text("x")), `-1/0 root 1; 0/1 p 2 3; 1/2 img; 1/3 "x"`},
		{list(open("b"), shut("b"), open("p"), shut("b"), open("i")), "-1/0 root 1 2; 0/1 b; 0/2 p 3; 2/3 i"},
		// What else a token has counts for nothing.
		{list(open("p"), token.Token{Kind: token.Close, Name: "p", Text: "x", Attrs: []api.Attr{{Name: "A"}, {Name: "A"}}}, open("b")), "-1/0 root 1 2; 0/1 p; 0/2 b"},
	})
}

func TestBuildTexts(t *testing.T) {
	check(t, []building{
		{list(text("a")), `-1/0 root 1; 0/1 "a"`},
		{list(text(" \n")), `-1/0 root 1; 0/1 " \n"`},
		{list(text("")), "-1/0 root"},
		{list(open("p"), text(""), shut("p"), text("")), "-1/0 root 1; 0/1 p"},
		{list(text("a"), text("b"), text(""), text("c")), `-1/0 root 1; 0/1 "abc"`},
		{list(text("a"), open("p"), text("b"), shut("p"), text("c")), `-1/0 root 1 2 4; 0/1 "a"; 0/2 p 3; 2/3 "b"; 0/4 "c"`},
		{list(text("a"), open("p"), shut("p"), text("c")), `-1/0 root 1 2 3; 0/1 "a"; 0/2 p; 0/3 "c"`},
		{list(text("a"), open("img"), text("c")), `-1/0 root 1 2 3; 0/1 "a"; 0/2 img; 0/3 "c"`},
		{list(open("p"), text("a"), shut("p"), open("p"), text("b")), `-1/0 root 1 3; 0/1 p 2; 1/2 "a"; 0/3 p 4; 3/4 "b"`},
		// Parted by what is passed over, they are one.
		{list(text("a"), shut("p"), text("b"), open("root"), text("c"), shut("root"), text("d")), `-1/0 root 1; 0/1 "abcd"`},
		{list(open("p"), text("a"), shut("b"), text(""), text("b"), shut("p"), text("c")), `-1/0 root 1 3; 0/1 p 2; 1/2 "ab"; 0/3 "c"`},
		// Bytes are what they are, and what else a token has counts for nothing.
		{list(text("\xff<&lt;\x00")), `-1/0 root 1; 0/1 "\xff<&lt;\x00"`},
		{list(token.Token{Kind: token.Text, Name: "P", Text: "x", Attrs: []api.Attr{{Name: "A"}}}), `-1/0 root 1; 0/1 "x"`},
		{list(text(strings.Repeat("a", api.MostBytes)), text("b")), `-1/0 root 1; 0/1 "` + strings.Repeat("a", api.MostBytes) + `b"`},
	})
}

// wrong are tokens that may not be, each for one reason.
func wrong() []token.Token {
	l := list(token.Token{}, token.Token{Kind: 4, Name: "p", Text: "x"}, token.Token{Kind: -1, Name: "p", Text: "x"},
		open("p", "a", "1", "a", "2"), open("p", "a", "", "b", "", "a", ""), open("root", "a", "1", "a", "1"))
	for _, name := range []string{"", "P", "1", "-a", "a b", "a_", "ä", name21, " a"} {
		l = append(l, open(name), shut(name), open("p", name, "x"), open("p", "a", "x", name, "x"))
	}
	return l
}

func TestBuildRefusesForm(t *testing.T) {
	for _, x := range wrong() {
		refuse(t, api.ErrForm, x)
		refuse(t, api.ErrForm, text("x"), open("p"), x, shut("p"))
	}
}

func TestBuildAsDeepAsMayBe(t *testing.T) {
	deep := many(open("p"), api.MostDepth)
	l, e := tree.Build(deep)
	if len(l) != api.MostDepth+1 || e != api.OK || tree.Depth(l, api.MostDepth) != api.MostDepth {
		t.Errorf("%s, %d", show(l), e)
	}
	for _, x := range list(open("p"), open("img"), text("x")) {
		refuse(t, api.ErrDepth, append(slices.Clone(deep), x)...)
		if l, e := tree.Build(append(slices.Clone(deep[1:]), x)); len(l) != api.MostDepth+1 || e != api.OK {
			t.Errorf("%+v: %s, %d", x, show(l), e)
		}
	}
	// What adds no node is never too deep.
	for _, x := range list(open("root"), shut("p"), shut("b"), text("")) {
		if _, e := tree.Build(append(slices.Clone(deep), x)); e != api.OK {
			t.Errorf("%+v: %d", x, e)
		}
	}
}

func TestBuildAsManyAsMayBe(t *testing.T) {
	full := many(open("img"), api.MostNodes-1)
	if l, e := tree.Build(full); len(l) != api.MostNodes || e != api.OK {
		t.Errorf("%d nodes, %d", len(l), e)
	}
	for _, x := range list(open("p"), open("img"), text("x")) {
		refuse(t, api.ErrFull, append(slices.Clone(full), x)...)
	}
	for _, x := range list(open("root"), shut("img"), text("")) {
		if l, e := tree.Build(append(slices.Clone(full), x)); len(l) != api.MostNodes || e != api.OK {
			t.Errorf("%+v: %d nodes, %d", x, len(l), e)
		}
	}
	// A text that goes on with another one is no node more.
	if l, e := tree.Build(append(slices.Clone(full[1:]), text("x"), shut("p"), text("y"))); len(l) != api.MostNodes || l[api.MostNodes-1].Text != "xy" || e != api.OK {
		t.Errorf("%s, %d", show(l), e)
	}
}

func TestBuildTellsTheFirstErrorOfTheFirstToken(t *testing.T) {
	// 60 nodes, the place as deep as may be.
	both := append(many(open("img"), api.MostNodes-1-api.MostDepth), many(open("p"), api.MostDepth)...)
	if l, e := tree.Build(both); len(l) != api.MostNodes || e != api.OK {
		t.Fatalf("%d nodes, %d", len(l), e)
	}
	with := func(x ...token.Token) []token.Token { return append(slices.Clone(both), x...) }
	refuse(t, api.ErrDepth, with(open("b"))...)
	refuse(t, api.ErrDepth, with(text("x"))...)
	refuse(t, api.ErrForm, with(open("B"))...)
	refuse(t, api.ErrForm, with(open("b", "a", "", "a", ""))...)
	// Two tokens have one each: the first of these counts.
	refuse(t, api.ErrDepth, with(open("b"), open("B"))...)
	refuse(t, api.ErrForm, with(shut("B"), open("b"))...)
	refuse(t, api.ErrFull, with(shut("p"), open("b"), open("B"))...)
	refuse(t, api.ErrFull, append(many(open("img"), api.MostNodes), token.Token{})...)
	refuse(t, api.ErrForm, append(many(open("p"), 5), append(list(shut("P")), many(open("p"), 20)...)...)...)
	refuse(t, api.ErrDepth, append(many(open("p"), 13), many(open("img"), 60)...)...)
	refuse(t, api.ErrFull, append(many(open("img"), 60), many(open("p"), 13)...)...)
}

func TestBuildOfManyTokens(t *testing.T) {
	var tokens []token.Token
	for range 200000 {
		tokens = append(tokens, text("ab"), shut("p"), open("root"))
	}
	l, e := tree.Build(tokens)
	if len(l) != 2 || l[1].Text != strings.Repeat("ab", 200000) || e != api.OK {
		t.Errorf("%d nodes, %d", len(l), e)
	}
}

// P5.2

func TestRead(t *testing.T) {
	for s, want := range map[string]string{
		"":                               "-1/0 root",
		"a<b>c</b>":                      `-1/0 root 1 2; 0/1 "a"; 0/2 b 3; 2/3 "c"`,
		"a<1>&lt;</p>b":                  `-1/0 root 1; 0/1 "a<1><b"`,
		`<P ID="&quot;" id="x">A</p >`:   `-1/0 root 1; 0/1 p id="\"" 2; 1/2 "A"`,
		"<p><b>x</p>y</b>z":              `-1/0 root 1 4; 0/1 p 2; 1/2 b 3; 2/3 "x"; 0/4 "yz"`,
		"<root a>x</root>y":              `-1/0 root 1; 0/1 "xy"`,
		strings.Repeat("<img></img>", 2): "-1/0 root 1 2; 0/1 img; 0/2 img",
	} {
		if l, e := tree.Read(s); show(l) != want || e != api.OK {
			t.Errorf("Read(%q) = %s, %d, want %s", s, show(l), e, want)
		}
	}
	for s, want := range map[string]api.Errno{
		strings.Repeat("a", api.MostBytes+1):   api.ErrFull,
		strings.Repeat("<p>", api.MostBytes/2): api.ErrFull,
		strings.Repeat("<p>", 13):              api.ErrDepth,
		strings.Repeat("<p>", 12) + "x":        api.ErrDepth,
		strings.Repeat("<p></p>", 60):          api.ErrFull,
		strings.Repeat("<img>", 59) + "x":      api.ErrFull,
	} {
		if l, e := tree.Read(s); len(l) != 0 || e != want {
			t.Errorf("Read(%.9q ..) = %s, %d, want %d", s, show(l), e, want)
		}
	}
	if l, e := tree.Read(strings.Repeat("a", api.MostBytes)); len(l) != 2 || e != api.OK {
		t.Errorf("%d nodes, %d", len(l), e)
	}
}

// fresh is root 0, a text 1, b 2, in it a text 3, an image 4, a text 5 and i 6; and a text 7.
func fresh(t *testing.T) []api.Node {
	t.Helper()
	l, e := tree.Read(`a<b x="1" y="2">c<img src="u">d<i></i></b>e`)
	if want := `-1/0 root 1 2 7; 0/1 "a"; 0/2 b x="1" y="2" 3 4 5 6; 2/3 "c"; 2/4 img src="u"; 2/5 "d"; 2/6 i; 0/7 "e"`; show(l) != want || e != api.OK {
		t.Fatalf("%s, %d", show(l), e)
	}
	return l
}

func TestMay(t *testing.T) {
	if !tree.May(fresh(t)) || !tree.May([]api.Node{{Parent: -1, Tag: "root"}}) || !tree.May([]api.Node{{Parent: -1, Tag: "root", Attrs: []api.Attr{}, Kids: []int{}}}) {
		t.Error("what may be")
	}
	if tree.May(nil) || tree.May([]api.Node{}) || tree.May([]api.Node{{}}) || tree.May([]api.Node{{Tag: "root"}}) {
		t.Error("no root")
	}
	for i, turn := range []func(l []api.Node) []api.Node{
		// The root.
		func(l []api.Node) []api.Node { l[0].Parent = 0; return l },
		func(l []api.Node) []api.Node { l[0].Parent = -2; return l },
		func(l []api.Node) []api.Node { l[0].Tag = "p"; return l },
		func(l []api.Node) []api.Node { l[0].Tag = ""; return l },
		func(l []api.Node) []api.Node { l[0].Text = "x"; return l },
		func(l []api.Node) []api.Node { l[0].Attrs = []api.Attr{{Name: "a"}}; return l },
		// Parents and Kids.
		func(l []api.Node) []api.Node { l[3].Parent = 0; return l },
		func(l []api.Node) []api.Node { l[7].Parent = 2; return l },
		func(l []api.Node) []api.Node { l[3].Parent = 3; return l },
		func(l []api.Node) []api.Node { l[3].Parent = 6; return l },
		func(l []api.Node) []api.Node { l[3].Parent = 8; return l },
		func(l []api.Node) []api.Node { l[3].Parent = -1; return l },
		func(l []api.Node) []api.Node { l[1].Parent, l[2].Parent = 2, 1; return l },
		func(l []api.Node) []api.Node { l[0].Kids = []int{1, 2}; return l },
		func(l []api.Node) []api.Node { l[0].Kids = []int{1, 7, 2}; return l },
		func(l []api.Node) []api.Node { l[0].Kids = []int{1, 2, 7, 7}; return l },
		func(l []api.Node) []api.Node { l[0].Kids = []int{1, 2, 7, 8}; return l },
		func(l []api.Node) []api.Node { l[0].Kids = []int{1, 2, -1}; return l },
		func(l []api.Node) []api.Node { l[0].Kids = []int{0, 1, 2, 7}; return l },
		func(l []api.Node) []api.Node { l[6].Kids = []int{7}; return l },
		func(l []api.Node) []api.Node { l[6].Kids = []int{6}; return l },
		func(l []api.Node) []api.Node { l[0].Kids = nil; return l },
		// A node that is out of its order, though all kids are told.
		func(l []api.Node) []api.Node {
			l = append(l, api.Node{Parent: 6, Text: "x"})
			l[6].Kids = []int{8}
			return l
		},
		func(l []api.Node) []api.Node { return append(l, api.Node{Parent: 0, Tag: "p"}) },
		func(l []api.Node) []api.Node { return l[:7] },
		// Tags.
		func(l []api.Node) []api.Node { l[2].Tag = "B"; return l },
		func(l []api.Node) []api.Node { l[2].Tag = "1"; return l },
		func(l []api.Node) []api.Node { l[2].Tag = "root"; return l },
		func(l []api.Node) []api.Node { l[2].Tag = name21; return l },
		func(l []api.Node) []api.Node { l[2].Tag = "img"; return l },
		func(l []api.Node) []api.Node { l[2].Tag = ""; return l },
		func(l []api.Node) []api.Node { l[6].Tag = ""; return l },
		// Texts.
		func(l []api.Node) []api.Node { l[1].Text = ""; return l },
		func(l []api.Node) []api.Node { l[1].Attrs = []api.Attr{{Name: "a"}}; return l },
		func(l []api.Node) []api.Node { l[4] = api.Node{Parent: 2, Text: "x"}; return l },
		func(l []api.Node) []api.Node { l[6] = api.Node{Parent: 2, Text: "x"}; return l },
		func(l []api.Node) []api.Node { l[1].Kids = []int{2}; return l },
		// Elements.
		func(l []api.Node) []api.Node { l[2].Text = "x"; return l },
		func(l []api.Node) []api.Node { l[4].Text = "x"; return l },
		func(l []api.Node) []api.Node { l[2].Attrs[1].Name = "x"; return l },
		func(l []api.Node) []api.Node { l[2].Attrs[1].Name = ""; return l },
		func(l []api.Node) []api.Node { l[2].Attrs[0].Name = "X"; return l },
		func(l []api.Node) []api.Node { l[2].Attrs[0].Name = name21; return l },
		func(l []api.Node) []api.Node { l[4].Attrs = append(l[4].Attrs, api.Attr{Name: "src"}); return l },
		func(l []api.Node) []api.Node { l[4].Kids = []int{5}; return l },
	} {
		if l := turn(fresh(t)); tree.May(l) {
			t.Errorf("case %d: %s", i, show(l))
		}
	}
	for i, turn := range []func(l []api.Node){
		func(l []api.Node) { l[1].Text = "\xff<&\x00" },
		func(l []api.Node) { l[1].Text = strings.Repeat("a", 2*api.MostBytes) },
		func(l []api.Node) { l[2].Tag = "a-1" },
		func(l []api.Node) { l[6].Tag = "img" },
		func(l []api.Node) { l[2].Attrs[0] = api.Attr{Name: "z", Value: "\"<"} },
		func(l []api.Node) { l[2].Attrs = []api.Attr{} },
		func(l []api.Node) { l[6].Attrs = []api.Attr{{Name: "root"}, {Name: "img"}} },
		func(l []api.Node) { l[1].Kids, l[1].Attrs = []int{}, []api.Attr{} },
		func(l []api.Node) { l[5] = api.Node{Parent: 2, Tag: "p"} },
	} {
		l := fresh(t)
		turn(l)
		if !tree.May(l) {
			t.Errorf("case %d: %s", i, show(l))
		}
	}
}

// chain is a document of so many nodes, each one in the one ahead.
func chain(n int) []api.Node {
	l := []api.Node{{Parent: -1, Tag: "root"}}
	for at := 1; at < n; at++ {
		l[at-1].Kids = []int{at}
		l = append(l, api.Node{Parent: at - 1, Tag: "p"})
	}
	return l
}

// wide is a document of so many nodes, all but one in the root.
func wide(n int) []api.Node {
	l := []api.Node{{Parent: -1, Tag: "root"}}
	for at := 1; at < n; at++ {
		l[0].Kids = append(l[0].Kids, at)
		l = append(l, api.Node{Parent: 0, Tag: "p"})
	}
	return l
}

func TestMayAtItsEnds(t *testing.T) {
	for _, c := range []struct {
		l    []api.Node
		want bool
	}{{chain(api.MostDepth + 1), true}, {chain(api.MostDepth + 2), false}, {chain(api.MostNodes), false}, {wide(api.MostNodes), true}, {wide(api.MostNodes + 1), false}, {wide(100000), false}} {
		if got := tree.May(c.l); got != c.want {
			t.Errorf("%d nodes, %d in the root: %v", len(c.l), len(c.l[0].Kids), got)
		}
	}
}

func TestDepth(t *testing.T) {
	l := fresh(t)
	for at, want := range []int{0, 1, 1, 2, 2, 2, 2, 1} {
		if got := tree.Depth(l, at); got != want {
			t.Errorf("Depth of %d is %d, want %d", at, got, want)
		}
	}
	for _, at := range []int{-1, -2, 8, 9, 1 << 40, -1 << 40} {
		if got := tree.Depth(l, at); got != -1 {
			t.Errorf("Depth of %d is %d", at, got)
		}
	}
	for at, n := range chain(api.MostDepth + 1) {
		if got := tree.Depth(chain(api.MostDepth+1), at); got != at {
			t.Errorf("Depth of %d (%s) is %d", at, n.Tag, got)
		}
	}
	if got := tree.Depth(nil, 0); got != -1 {
		t.Errorf("Depth of nothing is %d", got)
	}
}

// strange are lists of nodes that may not be: nothing that is asked of them panics, or has no end.
func strange() [][]api.Node {
	return [][]api.Node{
		nil, {}, {{}}, {{Parent: 0}}, {{Parent: 5, Kids: []int{7, -7}}}, {{Parent: 1}, {Parent: 0}},
		{{Parent: -1, Tag: "root", Kids: []int{0}}}, {{Parent: -1, Tag: "root", Kids: []int{1}}, {Parent: 1, Tag: "p", Kids: []int{1}}},
		{{Parent: -1, Tag: "root", Kids: []int{1 << 40}}, {Parent: 1 << 40}}, {{Parent: -1 << 40, Kids: []int{-1 << 40}}},
	}
}

func TestStrangeListsHaveAnEnd(t *testing.T) {
	for _, l := range strange() {
		if tree.May(l) {
			t.Errorf("%s may be", show(l))
		}
		for at := -2; at < 4; at++ {
			tree.Depth(l, at)
		}
		if got := show(tree.Copy(l)); got != show(l) {
			t.Errorf("Copy of %s is %s", show(l), got)
		}
	}
}

// spoil changes all of a document.
func spoil(l []api.Node) {
	for i := range l {
		for k := range l[i].Attrs {
			l[i].Attrs[k] = api.Attr{Name: "spoilt", Value: "spoilt"}
		}
		for k := range l[i].Kids {
			l[i].Kids[k] = -9
		}
		l[i].Attrs = append(l[i].Attrs, api.Attr{Name: "more"})
		l[i].Kids = append(l[i].Kids, 99)
		l[i].Parent, l[i].Tag, l[i].Text = -9, "spoilt", "spoilt"
	}
}

func TestCopySharesNothing(t *testing.T) {
	l := fresh(t)
	was := show(l)
	own := tree.Copy(l)
	if show(own) != was {
		t.Fatalf("%s", show(own))
	}
	spoil(own)
	if show(l) != was {
		t.Errorf("the document is now %s", show(l))
	}
	own = tree.Copy(l)
	spoil(l)
	if show(own) != was {
		t.Errorf("the copy is now %s", show(own))
	}
	if got := tree.Copy(nil); len(got) != 0 {
		t.Errorf("Copy of nothing is %s", show(got))
	}
}

func TestBuildSharesNothing(t *testing.T) {
	tokens := list(text("a"), open("p", "a", "1"), open("p", "a", "1"), text("b"))
	was, _ := tree.Build(tokens)
	kept := show(was)
	tokens[1].Attrs[0].Value, tokens[0].Text = "other", "other"
	if show(was) != kept {
		t.Errorf("the document is now %s", show(was))
	}
	tokens[1].Attrs[0].Value, tokens[0].Text = "1", "a"
	spoil(was)
	if tokens[1].Attrs[0].Value != "1" || len(tokens[1].Attrs) != 1 {
		t.Errorf("the tokens are now %+v", tokens)
	}
	// One list handed in twice is two in the answer.
	shared := open("p", "a", "1")
	l, _ := tree.Build(list(shared, shared))
	l[1].Attrs[0].Value = "other"
	if l[2].Attrs[0].Value != "1" || shared.Attrs[0].Value != "1" {
		t.Errorf("%s", show(l))
	}
}
