package dom_test

import (
	"strings"
	"testing"

	"scrim/api"
	"scrim/dom"
	"scrim/tree"
)

func read(t *testing.T, s string) []api.Node {
	t.Helper()
	l, e := tree.Read(s)
	if e != api.OK {
		t.Fatalf("Read(%q): %d", s, e)
	}
	return l
}

// same tells whether documents are: an empty list and none are one.
func same(a, b []api.Node) bool {
	if len(a) != len(b) {
		return false
	}
	for i := range a {
		one := a[i].Parent == b[i].Parent && a[i].Tag == b[i].Tag && a[i].Text == b[i].Text && len(a[i].Attrs) == len(b[i].Attrs) && len(a[i].Kids) == len(b[i].Kids)
		if !one {
			return false
		}
		for k := range a[i].Attrs {
			if a[i].Attrs[k] != b[i].Attrs[k] {
				return false
			}
		}
		for k := range a[i].Kids {
			if a[i].Kids[k] != b[i].Kids[k] {
				return false
			}
		}
	}
	return true
}

// act is what is done to a document.
type act func(l []api.Node) ([]api.Node, api.Errno)

func element(parent, at int, tag string) act {
	return func(l []api.Node) ([]api.Node, api.Errno) { return dom.Element(l, parent, at, tag) }
}

func text(parent, at int, text string) act {
	return func(l []api.Node) ([]api.Node, api.Errno) { return dom.Text(l, parent, at, text) }
}

func remove(node int) act {
	return func(l []api.Node) ([]api.Node, api.Errno) { return dom.Remove(l, node) }
}

func set(node int, name, value string) act {
	return func(l []api.Node) ([]api.Node, api.Errno) { return dom.Set(l, node, name, value) }
}

func setText(node int, text string) act {
	return func(l []api.Node) ([]api.Node, api.Errno) { return dom.SetText(l, node, text) }
}

// doing is what is done, and the text that comes of it, or the error.
type doing struct {
	do   act
	want string
	e    api.Errno
}

// check does each to the document of a text. What comes of it is the document of the text wanted.
func check(t *testing.T, s string, l []doing) {
	t.Helper()
	for i, c := range l {
		before := read(t, s)
		got, e := c.do(before)
		if e != c.e || e != api.OK && len(got) != 0 {
			t.Errorf("case %d of %q: %q, %d, want %q, %d", i, s, dom.Print(got), e, c.want, c.e)
			continue
		}
		if e == api.OK && (!tree.May(got) || !same(got, read(t, c.want)) || dom.Print(got) != c.want) {
			t.Errorf("case %d of %q: %+v, %q, want %q", i, s, got, dom.Print(got), c.want)
		}
		if !same(before, read(t, s)) {
			t.Errorf("case %d of %q: the document is now %q", i, s, dom.Print(before))
		}
	}
}

// Its nodes: root 0, a 1, b 2, c 3, d 4, img 5, i 6.
const page = `a<b id="i">c</b>d<img><i></i>`

const (
	far  = 1 << 40
	near = -1 << 40
)

var name21 = strings.Repeat("a", 21)

// P6.1

func TestElement(t *testing.T) {
	check(t, page, []doing{
		{element(0, 0, "p"), "<p></p>" + page, 0},
		{element(0, 1, "p"), `a<p></p><b id="i">c</b>d<img><i></i>`, 0},
		{element(0, 3, "p"), `a<b id="i">c</b>d<p></p><img><i></i>`, 0},
		{element(0, 5, "p"), page + "<p></p>", 0},
		{element(2, 0, "p"), `a<b id="i"><p></p>c</b>d<img><i></i>`, 0},
		{element(2, 1, "img"), `a<b id="i">c<img></b>d<img><i></i>`, 0},
		{element(6, 0, "b"), `a<b id="i">c</b>d<img><i><b></b></i>`, 0},
		{element(0, 0, name21[1:]), "<" + name21[1:] + "></" + name21[1:] + ">" + page, 0},
		// No such node goes ahead of all else.
		{element(7, 0, "p"), "", api.ErrName},
		{element(-1, 0, "p"), "", api.ErrName},
		{element(far, -1, ""), "", api.ErrName},
		{element(near, 99, "P"), "", api.ErrName},
		// A text, an image, a place that is none, a tag that is none.
		{element(1, 0, "p"), "", api.ErrArg},
		{element(3, 0, "p"), "", api.ErrArg},
		{element(5, 0, "p"), "", api.ErrArg},
		{element(0, -1, "p"), "", api.ErrArg},
		{element(0, 6, "p"), "", api.ErrArg},
		{element(0, far, "p"), "", api.ErrArg},
		{element(0, near, "p"), "", api.ErrArg},
		{element(2, 2, "p"), "", api.ErrArg},
		{element(6, 1, "p"), "", api.ErrArg},
		{element(0, 0, ""), "", api.ErrArg},
		{element(0, 0, "P"), "", api.ErrArg},
		{element(0, 0, "1"), "", api.ErrArg},
		{element(0, 0, "p "), "", api.ErrArg},
		{element(0, 0, name21), "", api.ErrArg},
		{element(0, 0, "root"), "", api.ErrArg},
	})
}

func TestText(t *testing.T) {
	check(t, page, []doing{
		// Beside a text it is one with it; the other ones stay apart.
		{text(0, 0, "x"), "x" + page, 0},
		{text(0, 1, "x"), "ax" + page[1:], 0},
		{text(0, 2, "x"), `a<b id="i">c</b>xd<img><i></i>`, 0},
		{text(0, 3, "x"), `a<b id="i">c</b>dx<img><i></i>`, 0},
		{text(0, 4, "x"), `a<b id="i">c</b>d<img>x<i></i>`, 0},
		{text(0, 5, "x"), page + "x", 0},
		{text(2, 0, "x"), `a<b id="i">xc</b>d<img><i></i>`, 0},
		{text(2, 1, "x"), `a<b id="i">cx</b>d<img><i></i>`, 0},
		{text(6, 0, "x"), `a<b id="i">c</b>d<img><i>x</i>`, 0},
		{text(6, 0, "<&>\"\n"), `a<b id="i">c</b>d<img><i>&lt;&amp;&gt;"` + "\n</i>", 0},
		{text(6, 0, "&lt;"), `a<b id="i">c</b>d<img><i>&amp;lt;</i>`, 0},
		{text(6, 0, "<p>"), `a<b id="i">c</b>d<img><i>&lt;p&gt;</i>`, 0},
		{text(6, 0, "\xff\x00"), `a<b id="i">c</b>d<img><i>` + "\xff\x00</i>", 0},
		// An empty one is gone.
		{text(0, 0, ""), page, 0},
		{text(0, 4, ""), page, 0},
		{text(6, 0, ""), page, 0},
		{text(7, 0, "x"), "", api.ErrName},
		{text(-1, 9, "x"), "", api.ErrName},
		{text(1, 0, "x"), "", api.ErrArg},
		{text(5, 0, "x"), "", api.ErrArg},
		{text(5, 0, ""), "", api.ErrArg},
		{text(0, 6, "x"), "", api.ErrArg},
		{text(0, 6, ""), "", api.ErrArg},
		{text(0, -1, "x"), "", api.ErrArg},
		{text(6, 1, "x"), "", api.ErrArg},
	})
}

func TestRemove(t *testing.T) {
	check(t, page, []doing{
		{remove(1), page[1:], 0},
		// Texts about it are one.
		{remove(2), "ad<img><i></i>", 0},
		{remove(3), `a<b id="i"></b>d<img><i></i>`, 0},
		{remove(4), `a<b id="i">c</b><img><i></i>`, 0},
		{remove(5), `a<b id="i">c</b>d<i></i>`, 0},
		{remove(6), `a<b id="i">c</b>d<img>`, 0},
		{remove(7), "", api.ErrName},
		{remove(-1), "", api.ErrName},
		{remove(far), "", api.ErrName},
		{remove(near), "", api.ErrName},
		{remove(0), "", api.ErrArg},
	})
	check(t, "a<b></b>c", []doing{{remove(2), "ac", 0}})
	check(t, "", []doing{{remove(0), "", api.ErrArg}, {remove(1), "", api.ErrName}})
	// All that stands in it is gone, and nothing else.
	check(t, "<p>a<b>c<i>d</i></b>e</p>f<u></u>", []doing{
		{remove(1), "f<u></u>", 0},
		{remove(3), "<p>ae</p>f<u></u>", 0},
		{remove(5), "<p>a<b>c</b>e</p>f<u></u>", 0},
	})
}

func TestSet(t *testing.T) {
	check(t, page, []doing{
		{set(2, "id", "j"), `a<b id="j">c</b>d<img><i></i>`, 0},
		{set(2, "id", ""), `a<b id="">c</b>d<img><i></i>`, 0},
		{set(2, "id", "&\"<>"), `a<b id="&amp;&quot;&lt;&gt;">c</b>d<img><i></i>`, 0},
		{set(2, "x", "1"), `a<b id="i" x="1">c</b>d<img><i></i>`, 0},
		{set(2, "a", "1"), `a<b id="i" a="1">c</b>d<img><i></i>`, 0},
		{set(5, "src", "u"), `a<b id="i">c</b>d<img src="u"><i></i>`, 0},
		{set(6, "root", ""), `a<b id="i">c</b>d<img><i root=""></i>`, 0},
		{set(6, name21[1:], "\xff\n"), `a<b id="i">c</b>d<img><i ` + name21[1:] + "=\"\xff\n\"></i>", 0},
		{set(7, "x", ""), "", api.ErrName},
		{set(-1, "X", ""), "", api.ErrName},
		{set(0, "x", ""), "", api.ErrArg},
		{set(1, "x", ""), "", api.ErrArg},
		{set(3, "x", ""), "", api.ErrArg},
		{set(2, "", ""), "", api.ErrArg},
		{set(2, "ID", ""), "", api.ErrArg},
		{set(2, "1", ""), "", api.ErrArg},
		{set(2, "a b", ""), "", api.ErrArg},
		{set(2, name21, ""), "", api.ErrArg},
	})
	// One among others stays where it is.
	check(t, `<p a="1" b="2" c="3"></p>`, []doing{{set(1, "b", "x"), `<p a="1" b="x" c="3"></p>`, 0}, {set(1, "a", "x"), `<p a="x" b="2" c="3"></p>`, 0}})
}

func TestSetText(t *testing.T) {
	check(t, page, []doing{
		{setText(1, "x"), "x" + page[1:], 0},
		{setText(1, ""), page[1:], 0},
		{setText(1, "<"), "&lt;" + page[1:], 0},
		{setText(2, "x"), `a<b id="i">x</b>d<img><i></i>`, 0},
		{setText(2, ""), `a<b id="i"></b>d<img><i></i>`, 0},
		{setText(3, "x"), `a<b id="i">x</b>d<img><i></i>`, 0},
		{setText(4, ""), `a<b id="i">c</b><img><i></i>`, 0},
		{setText(6, "x<i>"), `a<b id="i">c</b>d<img><i>x&lt;i&gt;</i>`, 0},
		{setText(6, ""), page, 0},
		{setText(7, "x"), "", api.ErrName},
		{setText(-1, "x"), "", api.ErrName},
		{setText(0, "x"), "", api.ErrArg},
		{setText(5, "x"), "", api.ErrArg},
		{setText(5, ""), "", api.ErrArg},
	})
	check(t, `<p x="1">a<b>c<i>d</i></b>e</p>f`, []doing{
		{setText(1, "x"), `<p x="1">x</p>f`, 0},
		{setText(1, ""), `<p x="1"></p>f`, 0},
		{setText(3, "x"), `<p x="1">a<b>x</b>e</p>f`, 0},
		{setText(3, ""), `<p x="1">a<b></b>e</p>f`, 0},
	})
}

func TestAsDeepAsMayBe(t *testing.T) {
	deep := func(n int, s string) string {
		return strings.Repeat("<p>", n) + s + strings.Repeat("</p>", n)
	}
	check(t, deep(11, ""), []doing{{element(11, 0, "b"), deep(11, "<b></b>"), 0}, {text(11, 0, "x"), deep(11, "x"), 0}, {setText(11, "x"), deep(11, "x"), 0}})
	check(t, deep(12, ""), []doing{
		{element(12, 0, "b"), "", api.ErrDepth},
		{element(12, 0, "img"), "", api.ErrDepth},
		{text(12, 0, "x"), "", api.ErrDepth},
		{setText(12, "x"), "", api.ErrDepth},
		// What is gone isn't deep.
		{text(12, 0, ""), deep(12, ""), 0},
		{setText(12, ""), deep(12, ""), 0},
		{element(11, 0, "b"), deep(11, "<b></b><p></p>"), 0},
		{setText(11, "x"), deep(11, "x"), 0},
		{remove(12), deep(11, ""), 0},
		// What is wrong goes ahead of it.
		{element(12, 1, "b"), "", api.ErrArg},
		{element(12, 0, "B"), "", api.ErrArg},
		{element(13, 0, "b"), "", api.ErrName},
		// It goes ahead of what is full.
		{text(12, 0, strings.Repeat("x", api.MostBytes)), "", api.ErrDepth},
		{setText(12, strings.Repeat("x", api.MostBytes)), "", api.ErrDepth},
	})
}

func TestAsManyAsMayBe(t *testing.T) {
	full := strings.Repeat("<img>", api.MostNodes-2)
	check(t, full, []doing{
		{element(0, 0, "p"), "<p></p>" + full, 0},
		{text(0, 0, "x"), "x" + full, 0},
	})
	check(t, full+"x", []doing{
		{element(0, 0, "p"), "", api.ErrFull},
		{element(0, 0, "img"), "", api.ErrFull},
		{text(0, 0, "x"), "", api.ErrFull},
		// No node more.
		{text(0, 0, ""), full + "x", 0},
		{text(0, api.MostNodes-2, "y"), full + "yx", 0},
		{text(0, api.MostNodes-1, "y"), full + "xy", 0},
		{setText(api.MostNodes-1, "y"), full + "y", 0},
		{set(1, "a", "1"), `<img a="1">` + full[5:] + "x", 0},
		{remove(1), full[5:] + "x", 0},
		{element(0, api.MostNodes, "p"), "", api.ErrArg},
		{element(api.MostNodes, 0, "p"), "", api.ErrName},
		{element(1, 0, "p"), "", api.ErrArg},
	})
	check(t, strings.Repeat("<img>", api.MostNodes-2)+"<p></p>", []doing{
		{setText(api.MostNodes-1, "x"), "", api.ErrFull},
		{setText(api.MostNodes-1, ""), strings.Repeat("<img>", api.MostNodes-2) + "<p></p>", 0},
	})
	// Too deep and too many: too deep.
	both := strings.Repeat("<img>", api.MostNodes-1-api.MostDepth) + strings.Repeat("<p>", api.MostDepth)
	check(t, both, []doing{{element(api.MostNodes-1, 0, "b"), "", api.ErrDepth}, {setText(api.MostNodes-1, "b"), "", api.ErrDepth}, {element(api.MostNodes-2, 0, "b"), "", api.ErrFull}})
}

func TestAsManyBytesAsMayBe(t *testing.T) {
	check(t, "<p></p>", []doing{
		{text(1, 0, strings.Repeat("x", api.MostBytes-7)), "<p>" + strings.Repeat("x", api.MostBytes-7) + "</p>", 0},
		{text(1, 0, strings.Repeat("x", api.MostBytes-6)), "", api.ErrFull},
		{text(1, 0, strings.Repeat("&", (api.MostBytes-7)/5)), "<p>" + strings.Repeat("&amp;", (api.MostBytes-7)/5) + "</p>", 0},
		{text(1, 0, strings.Repeat("&", (api.MostBytes-7)/5+1)), "", api.ErrFull},
		{setText(1, strings.Repeat("x", api.MostBytes-7)), "<p>" + strings.Repeat("x", api.MostBytes-7) + "</p>", 0},
		{setText(1, strings.Repeat("x", api.MostBytes-6)), "", api.ErrFull},
		{set(1, "a", strings.Repeat("x", api.MostBytes-12)), `<p a="` + strings.Repeat("x", api.MostBytes-12) + `"></p>`, 0},
		{set(1, "a", strings.Repeat("x", api.MostBytes-11)), "", api.ErrFull},
		{set(1, "a", strings.Repeat(`"`, 1000)), "", api.ErrFull},
		{text(0, 0, strings.Repeat("x", 1<<20)), "", api.ErrFull},
		// What is wrong goes ahead of it.
		{set(1, "A", strings.Repeat("x", api.MostBytes)), "", api.ErrArg},
		{set(2, "a", strings.Repeat("x", api.MostBytes)), "", api.ErrName},
	})
	full := "<p></p>" + strings.Repeat("x", api.MostBytes-7)
	check(t, full, []doing{
		{element(0, 0, "p"), "", api.ErrFull},
		{text(0, 0, "x"), "", api.ErrFull},
		{text(0, 0, ""), full, 0},
		{set(1, "a", ""), "", api.ErrFull},
		{remove(1), full[7:], 0},
		{setText(2, full), "", api.ErrFull},
		{setText(2, "x"), "<p></p>x", 0},
	})
	// A document may have a text that is too long: all that leaves it so is refused.
	long := []api.Node{{Parent: -1, Tag: "root", Kids: []int{1, 2}}, {Tag: "p"}, {Text: strings.Repeat("x", 2*api.MostBytes)}}
	if l, e := dom.Remove(long, 1); len(l) != 0 || e != api.ErrFull {
		t.Errorf("%d nodes, %d", len(l), e)
	}
	if l, e := dom.Remove(long, 2); dom.Print(l) != "<p></p>" || e != api.OK {
		t.Errorf("%q, %d", dom.Print(l), e)
	}
}

// P6.2

func TestPrint(t *testing.T) {
	for _, s := range []string{
		"", "a", page, "<p></p>", "<p>a</p>b", `<p a="1" b=""><img src="u"><b>x</b></p>`, "<img>", "&lt;&gt;&amp;\"", `<p a="&quot;&lt;&gt;&amp;'">"</p>`,
		"<p><p><p></p>x</p></p>", " \n", "\xff\x00", "<p></p><p></p>",
	} {
		if got := dom.Print(read(t, s)); got != s {
			t.Errorf("%q is printed as %q", s, got)
		}
	}
	for s, want := range map[string]string{
		"<P A=\"x\" b >": `<p a="x" b=""></p>`, "<p>a</b>": "<p>a</p>", "<root>x": "x", "</p>x": "x", "<p><b>x</p>y": "<p><b>x</b></p>y",
		"&": "&amp;", "<": "&lt;", ">": "&gt;", "<img></img>": "<img>", "&quot;": `"`, "<p a=\"<\">": `<p a="&lt;"></p>`,
	} {
		if got := dom.Print(read(t, s)); got != want {
			t.Errorf("%q is printed as %q, want %q", s, got, want)
		}
	}
}

func TestGet(t *testing.T) {
	l := read(t, `a<b id="i" x="" y="&lt;"></b><img src="u">`) // root 0, a 1, b 2, img 3
	for _, c := range []struct {
		node       int
		name, want string
		is         bool
	}{
		{2, "id", "i", true}, {2, "x", "", true}, {2, "y", "<", true}, {3, "src", "u", true},
		{2, "ID", "", false}, {2, "", "", false}, {2, "z", "", false}, {2, "src", "", false}, {3, "id", "", false},
		{0, "id", "", false}, {1, "id", "", false}, {1, "", "", false},
		{4, "id", "", false}, {-1, "id", "", false}, {far, "id", "", false}, {near, "id", "", false},
	} {
		if got, is := dom.Get(l, c.node, c.name); got != c.want || is != c.is {
			t.Errorf("Get(%d, %q) = %q, %v", c.node, c.name, got, is)
		}
	}
	if got, is := dom.Get(nil, 0, "id"); got != "" || is {
		t.Errorf("Get of nothing is %q, %v", got, is)
	}
}

// Lists of nodes that may not be: nothing that is asked of them panics, or has no end.
func TestStrangeListsHaveAnEnd(t *testing.T) {
	for _, l := range [][]api.Node{
		nil, {}, {{}}, {{Parent: 0}}, {{Parent: -1, Tag: "root", Kids: []int{0}}}, {{Parent: -1, Tag: "root", Kids: []int{9}}},
		{{Parent: -1, Tag: "root", Kids: []int{-1}}}, {{Parent: -1, Tag: "root", Kids: []int{1}}, {Parent: 1, Tag: "p", Kids: []int{0, 1}}},
		{{Parent: 1, Tag: "p", Kids: []int{1}}, {Parent: 0, Tag: "p", Kids: []int{0}}},
	} {
		for node := -1; node < 3; node++ {
			for _, do := range []act{element(node, 0, "p"), text(node, 0, "x"), remove(node), set(node, "x", ""), setText(node, "x")} {
				if got, e := do(l); len(got) != 0 || e != api.ErrName && e != api.ErrArg {
					t.Errorf("%+v, node %d: %+v, %d", l, node, got, e)
				}
			}
			dom.Get(l, node, "x")
		}
		if got := dom.Print(l); got != "" {
			t.Errorf("%+v is printed as %q", l, got)
		}
	}
}
