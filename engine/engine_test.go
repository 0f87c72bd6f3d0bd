package engine_test

import (
	"math"
	"slices"
	"strings"
	"testing"

	"scrim/api"
	"scrim/dom"
	"scrim/engine"
	"scrim/res"
)

// What a step does.
const (
	element = iota
	text
	remove
	set
	setText
	computed
	place
	rects
	hit
	print
)

// sorts are rules for tags of each sort.
const sorts = "p {display: block} f {display: flex} n {display: none} "

// page is one of no great room and much to take, of an image u of 10 to 5 px that is Open, one v that isn't, and a font of letters half as wide as high.
func page(html, css string) engine.Page {
	table := res.Table{Images: []res.Image{{Src: "u", W: 640, H: 320, Open: true}, {Src: "v", W: 7, H: 9}}, Font: res.Font{Advance: 32, Open: true}}
	return engine.Page{Html: html, Css: sorts + css, Table: table, Room: 6400, Limit: 1 << 40}
}

func made(t *testing.T, p engine.Page) *engine.Engine {
	t.Helper()
	e, errno := engine.New(p)
	if e == nil || errno != api.OK {
		t.Fatalf("New of %+v: %v, %d", p, e, errno)
	}
	return e
}

// r is a place, by pixels.
func r(x, y, w, h int64) api.Rect { return api.Rect{X: 64 * x, Y: 64 * y, W: 64 * w, H: 64 * h} }

func same(a, b engine.Answer) bool { return a.Steps == b.Steps && alike(a, b) }

// alike holds all but Steps.
func alike(a, b engine.Answer) bool {
	return a.Err == b.Err && a.Text == b.Text && a.N == b.N && slices.Equal(a.Rects, b.Rects)
}

// one is a step, and its answer.
type one struct {
	x    engine.Step
	want engine.Answer
}

// check holds steps of one engine, whatever they cost.
func check(t *testing.T, e *engine.Engine, l ...one) {
	t.Helper()
	for i, c := range l {
		if got := e.Do(c.x); !alike(got, c.want) {
			t.Errorf("%d: %+v: %+v, want %+v", i, c.x, got, c.want)
		}
	}
}

// P22.1

func holdNew(t *testing.T, what string, p engine.Page, want api.Errno) {
	t.Helper()
	e, errno := engine.New(p)
	if errno != want || (e == nil) != (want != api.OK) {
		t.Errorf("%s: New is %v, %d, want %d", what, e, errno, want)
	}
}

// wrong is what makes a page none, in one part of it, and its error.
type wrong struct {
	what, part string
	turn       func(p *engine.Page)
	want       api.Errno
}

// wrongs stand in the order in which the errors are named.
func wrongs() []wrong {
	images := func(l ...res.Image) func(p *engine.Page) {
		return func(p *engine.Page) { p.Table.Images = l }
	}
	var many []res.Image
	for i := range 21 {
		many = append(many, res.Image{Src: strings.Repeat("u", i)})
	}
	return []wrong{
		{"too much", "Html", func(p *engine.Page) { p.Html = strings.Repeat("x", api.MostBytes+1) }, api.ErrFull},
		{"too deep", "Html", func(p *engine.Page) { p.Html = strings.Repeat("<p>", api.MostDepth+1) }, api.ErrDepth},
		{"too many nodes", "Html", func(p *engine.Page) { p.Html = strings.Repeat("<img>", api.MostNodes) }, api.ErrFull},
		{"too much", "Css", func(p *engine.Page) { p.Css = strings.Repeat(" ", api.MostBytes+1) }, api.ErrFull},
		{"too many rules", "Css", func(p *engine.Page) { p.Css = strings.Repeat("a{}", api.MostRules+1) }, api.ErrFull},
		{"too many selectors", "Css", func(p *engine.Page) { p.Css = strings.Repeat("a,", 20) + "a{}" }, api.ErrArg},
		{"too many declarations", "Css", func(p *engine.Page) { p.Css = "a{" + strings.Repeat("order:1;", 61) + "}" }, api.ErrArg},
		{"an advance below 0", "Table", func(p *engine.Page) { p.Table.Font.Advance = -1 }, api.ErrArg},
		{"an advance too great", "Table", func(p *engine.Page) { p.Table.Font = res.Font{Advance: 1025, Open: true} }, api.ErrArg},
		{"an image twice", "Table", images(res.Image{Src: "u"}, res.Image{Src: "u", Open: true}), api.ErrArg},
		{"an image too wide", "Table", images(res.Image{W: 1<<20 + 1}), api.ErrArg},
		{"an image too low", "Table", images(res.Image{H: -1, Open: true}), api.ErrArg},
		{"too many images", "Table", images(many...), api.ErrArg},
		{"below 0", "Room", func(p *engine.Page) { p.Room = -1 }, api.ErrArg},
		{"far below 0", "Room", func(p *engine.Page) { p.Room = math.MinInt64 }, api.ErrArg},
		{"too great", "Room", func(p *engine.Page) { p.Room = api.MostFixed + 1 }, api.ErrArg},
		{"far too great", "Room", func(p *engine.Page) { p.Room = math.MaxInt64 }, api.ErrArg},
		{"below 0", "Limit", func(p *engine.Page) { p.Limit = -1 }, api.ErrArg},
		{"far below 0", "Limit", func(p *engine.Page) { p.Limit = math.MinInt }, api.ErrArg},
		{"too great", "Limit", func(p *engine.Page) { p.Limit = 1<<40 + 1 }, api.ErrArg},
		{"far too great", "Limit", func(p *engine.Page) { p.Limit = math.MaxInt }, api.ErrArg},
	}
}

func TestNewOfWrongPages(t *testing.T) {
	for i, a := range wrongs() {
		p := page("<p>ab</p>", "")
		a.turn(&p)
		holdNew(t, a.part+": "+a.what, p, a.want)
		// Of two the error is that of the one that is named first.
		for _, b := range wrongs()[i+1:] {
			if b.part == a.part {
				continue
			}
			q := p
			b.turn(&q)
			holdNew(t, a.part+": "+a.what+"; "+b.part+": "+b.what, q, a.want)
		}
	}
}

func TestNewAtEdges(t *testing.T) {
	for what, turn := range map[string]func(p *engine.Page){
		"nothing":           func(p *engine.Page) { *p = engine.Page{} },
		"a room of 0":       func(p *engine.Page) { p.Room = 0 },
		"the greatest room": func(p *engine.Page) { p.Room = api.MostFixed },
		"a limit of 0":      func(p *engine.Page) { p.Limit = 0 },
		"most Html":         func(p *engine.Page) { p.Html = strings.Repeat("x", api.MostBytes) },
		"Html most deep":    func(p *engine.Page) { p.Html = strings.Repeat("<p>", api.MostDepth) },
		"most nodes":        func(p *engine.Page) { p.Html = strings.Repeat("<img>", api.MostNodes-1) },
		"most rules":        func(p *engine.Page) { p.Css = strings.Repeat("a{}", api.MostRules) },
		"most Css":          func(p *engine.Page) { p.Css = strings.Repeat(" ", api.MostBytes) },
		"most selectors":    func(p *engine.Page) { p.Css = strings.Repeat("a,", 19) + "a{}" },
		"most declarations": func(p *engine.Page) { p.Css = "a{" + strings.Repeat("order:1;", 60) + "}" },
		"what is no token":  func(p *engine.Page) { p.Html = "<p <" },
		"what is no rule":   func(p *engine.Page) { p.Css = "{}} a,{} b{:;" },
		"what was visited":  func(p *engine.Page) { p.Seen = slices.Repeat([]string{"h", ""}, 100) },
	} {
		p := page("<p>ab</p>", "")
		turn(&p)
		holdNew(t, what, p, api.OK)
	}
}

// What a caller does to a page that was handed in reaches no engine, and an engine doesn't reach the page.
func TestNewKeepsNothing(t *testing.T) {
	p := page(`<a href="h">x</a><img src="u">`, "a:visited {color: red}")
	p.Seen = []string{"h"}
	e := made(t, p)
	want, _ := e.Items()
	p.Seen[0] = "k"
	p.Table.Images[0] = res.Image{Src: "u", W: 1, H: 1, Open: true}
	got, _ := e.Items()
	if !slices.Equal(got, want) || got[2].Color != 0xff0000 {
		t.Errorf("items are now %+v, were %+v", got, want)
	}
	check(t, e, one{engine.Step{Do: place, Node: 3}, engine.Answer{N: 1, Rects: []api.Rect{r(8, 11, 10, 5)}}})
	if p.Seen[0] != "k" || p.Html != `<a href="h">x</a><img src="u">` {
		t.Errorf("the page is now %+v", p)
	}
}

// P22.2: what each step tells

func TestDoOfNoNumber(t *testing.T) {
	e := made(t, page("x", ""))
	e.Do(engine.Step{Do: print})
	for _, do := range []int{-1, -2, 10, 11, math.MinInt, math.MaxInt} {
		x := engine.Step{Do: do, Node: 1, Name: "p", Text: "y"}
		if got := e.Do(x); !same(got, engine.Answer{Err: api.ErrArg, Steps: 1}) {
			t.Errorf("Do %d: %+v", do, got)
		}
	}
	check(t, e, one{engine.Step{Do: print}, engine.Answer{Text: "x"}})
}

// change is a step that changes a document, and what it is then.
type change struct {
	html string
	x    engine.Step
	want string
	err  api.Errno
}

func holdChange(t *testing.T, c change) {
	t.Helper()
	e := made(t, page(c.html, ""))
	was := e.Do(engine.Step{Do: print}).Text
	if got := e.Do(c.x); !alike(got, engine.Answer{Err: c.err}) {
		t.Errorf("%q, %+v: %+v, want %d", c.html, c.x, got, c.err)
	}
	if c.err != api.OK {
		c.want = was
	}
	if got := e.Do(engine.Step{Do: print}).Text; got != c.want {
		t.Errorf("%q, %+v: now %q, want %q", c.html, c.x, got, c.want)
	}
	if got := dom.Print(e.Doc()); got != c.want {
		t.Errorf("%q, %+v: the document is %q, want %q", c.html, c.x, got, c.want)
	}
}

func TestChanges(t *testing.T) {
	// 0 root, 1 p, 2 a, 3 i, 4 img, 5 b
	const html = `<p>a<i></i></p><img>b`
	for _, c := range []change{
		{html, engine.Step{Do: element, Text: "b"}, "<b></b>" + html, api.OK},
		{html, engine.Step{Do: element, At: 2, Text: "b"}, `<p>a<i></i></p><img><b></b>b`, api.OK},
		{html, engine.Step{Do: element, Node: 1, At: 1, Text: "img"}, `<p>a<img><i></i></p><img>b`, api.OK},
		{html, engine.Step{Do: element, Node: 3, Name: "x", Text: "b"}, `<p>a<i><b></b></i></p><img>b`, api.OK},
		{html, engine.Step{Do: text, Node: 3, Text: "x<"}, `<p>a<i>x&lt;</i></p><img>b`, api.OK},
		{html, engine.Step{Do: text, Node: 1, At: 1, Text: "x", Name: "y"}, `<p>ax<i></i></p><img>b`, api.OK},
		{html, engine.Step{Do: text, Node: 1, At: 2, Text: ""}, html, api.OK},
		{html, engine.Step{Do: remove, Node: 1}, `<img>b`, api.OK},
		{html, engine.Step{Do: remove, Node: 2, At: 9, Text: "x"}, `<p><i></i></p><img>b`, api.OK},
		{html, engine.Step{Do: set, Node: 4, Name: "src", Text: `u"`}, `<p>a<i></i></p><img src="u&quot;">b`, api.OK},
		{html, engine.Step{Do: set, Node: 1, Name: "id"}, `<p id="">a<i></i></p><img>b`, api.OK},
		{html, engine.Step{Do: setText, Node: 1, Text: "x"}, `<p>x</p><img>b`, api.OK},
		{html, engine.Step{Do: setText, Node: 5, Text: "x", Name: "y"}, `<p>a<i></i></p><img>x`, api.OK},
		{html, engine.Step{Do: setText, Node: 2}, `<p><i></i></p><img>b`, api.OK},
	} {
		holdChange(t, c)
	}
}

func TestChangesThatMayNotBe(t *testing.T) {
	const html = `<p>a<i></i></p><img>b`
	deep := strings.Repeat("<p>", api.MostDepth)
	many := strings.Repeat("<p></p>", api.MostNodes-1)
	for _, c := range []change{
		{html, engine.Step{Do: element, Node: -1, Text: "b"}, "", api.ErrName},
		{html, engine.Step{Do: element, Node: 6, At: -1, Text: "b"}, "", api.ErrName},
		{html, engine.Step{Do: element, Node: 2, Text: "b"}, "", api.ErrArg},
		{html, engine.Step{Do: element, Node: 4, Text: "b"}, "", api.ErrArg},
		{html, engine.Step{Do: element, At: -1, Text: "b"}, "", api.ErrArg},
		{html, engine.Step{Do: element, At: 4, Text: "b"}, "", api.ErrArg},
		{html, engine.Step{Do: element, Name: "b"}, "", api.ErrArg},
		{html, engine.Step{Do: element, Text: "root"}, "", api.ErrArg},
		{html, engine.Step{Do: element, Text: "B"}, "", api.ErrArg},
		{deep, engine.Step{Do: element, Node: api.MostDepth, Text: "b"}, "", api.ErrDepth},
		{many, engine.Step{Do: element, Text: "b"}, "", api.ErrFull},
		{html, engine.Step{Do: text, Node: math.MaxInt, Text: "x"}, "", api.ErrName},
		{html, engine.Step{Do: text, Node: 4, Text: "x"}, "", api.ErrArg},
		{html, engine.Step{Do: text, At: 4, Text: "x"}, "", api.ErrArg},
		{deep, engine.Step{Do: text, Node: api.MostDepth, Text: "x"}, "", api.ErrDepth},
		{html, engine.Step{Do: text, Text: strings.Repeat("x", api.MostBytes)}, "", api.ErrFull},
		{html, engine.Step{Do: remove, Node: math.MinInt}, "", api.ErrName},
		{html, engine.Step{Do: remove}, "", api.ErrArg},
		{html, engine.Step{Do: set, Node: 6, Name: "id"}, "", api.ErrName},
		{html, engine.Step{Do: set, Name: "id"}, "", api.ErrArg},
		{html, engine.Step{Do: set, Node: 2, Name: "id"}, "", api.ErrArg},
		{html, engine.Step{Do: set, Node: 1, Text: "x"}, "", api.ErrArg},
		{html, engine.Step{Do: set, Node: 1, Name: "ID"}, "", api.ErrArg},
		{html, engine.Step{Do: set, Node: 1, Name: "id", Text: strings.Repeat("&", 1000)}, "", api.ErrFull},
		{html, engine.Step{Do: setText, Node: -1}, "", api.ErrName},
		{html, engine.Step{Do: setText, Text: "x"}, "", api.ErrArg},
		{html, engine.Step{Do: setText, Node: 4, Text: "x"}, "", api.ErrArg},
		{deep, engine.Step{Do: setText, Node: api.MostDepth, Text: "x"}, "", api.ErrDepth},
		{many, engine.Step{Do: setText, Node: 1, Text: "x"}, "", api.ErrFull},
	} {
		holdChange(t, c)
	}
}

func TestComputed(t *testing.T) {
	e := made(t, page(`<p><a href="h">x</a></p>`, "p {width: 50%; color: blue} a:link {color: red} a:visited {color: green}"))
	name := func(node int, name, want string, err api.Errno) one {
		return one{engine.Step{Do: computed, Node: node, Name: name, Text: "width", X: 9, Y: 9}, engine.Answer{Text: want, Err: err}}
	}
	check(t, e,
		name(1, "width", "50%", api.OK), name(1, "color", "#0000ff", api.OK), name(2, "color", "#ff0000", api.OK), name(3, "color", "#ff0000", api.OK), name(0, "display", "inline", api.OK),
		name(1, "", "", api.ErrName), name(1, "x", "", api.ErrName), name(1, "Width", "", api.ErrName), name(1, "margin", "", api.ErrName),
		name(-1, "width", "", api.ErrName), name(4, "width", "", api.ErrName), name(math.MinInt, "width", "", api.ErrName), name(math.MaxInt, "x", "", api.ErrName))
}

func TestPlaces(t *testing.T) {
	// 0 root, 1 p, 2 "a b", 3 n, 4 c, 5 i
	e := made(t, page("<p>a b</p><n>c</n><i></i>", "p {width: 8px; margin: 2px}"))
	is := func(node int, l ...api.Rect) []one {
		x := engine.Step{Node: node, At: 7, Name: "x", Text: "y", X: 1, Y: 1}
		x.Do = rects
		out := []one{{x, engine.Answer{Rects: l}}}
		x.Do = place
		switch len(l) {
		case 0:
			return append(out, one{x, engine.Answer{}})
		case 1:
			return append(out, one{x, engine.Answer{N: 1, Rects: l}})
		}
		return out
	}
	check(t, e, slices.Concat(is(0, r(0, 0, 100, 36)), is(1, r(2, 2, 8, 32)), is(2, r(2, 2, 8, 16), r(2, 18, 8, 16)), is(3), is(4), is(-1), is(6), is(math.MaxInt), is(math.MinInt))...)
	check(t, e, one{engine.Step{Do: place, Node: 2}, engine.Answer{N: 1, Rects: []api.Rect{r(2, 2, 8, 32)}}})
	// A box of no fragments has a place, of no size, and no rects.
	check(t, made(t, page("x<i></i>", "")), one{engine.Step{Do: place, Node: 2}, engine.Answer{N: 1, Rects: []api.Rect{{}}}}, one{engine.Step{Do: rects, Node: 2}, engine.Answer{}})
}

func TestHit(t *testing.T) {
	e := made(t, page("<p>a</p>", "p {width: 20px; height: 30px}"))
	at := func(x, y int64, node int) one {
		return one{engine.Step{Do: hit, Node: 9, X: x, Y: y}, engine.Answer{N: node}}
	}
	check(t, e, at(0, 0, 2), at(511, 1023, 2), at(512, 0, 1), at(0, 1024, 1), at(1279, 1919, 1), at(1280, 0, 0), at(0, 1920, -1), at(-1, 0, -1), at(math.MinInt64, math.MaxInt64, -1))
}

// P22.3

func TestDocIsTheEnginesOwn(t *testing.T) {
	e := made(t, page(`<p id="x">a</p>`, ""))
	l := e.Doc()
	if dom.Print(l) != `<p id="x">a</p>` || len(l) != 3 {
		t.Fatalf("the document is %+v", l)
	}
	l[1].Attrs[0].Value, l[1].Kids[0], l[0].Kids[0] = "y", 0, 2
	l[2].Text, l[1].Tag = "b", "i"
	clear(l[:1])
	_ = append(l[2].Kids, 5)
	check(t, e, one{engine.Step{Do: print}, engine.Answer{Text: `<p id="x">a</p>`}}, one{engine.Step{Do: computed, Node: 1, Name: "display"}, engine.Answer{Text: "block"}})
	if l = e.Doc(); dom.Print(l) != `<p id="x">a</p>` {
		t.Errorf("the document is now %+v", l)
	}
	// One that was told stays as it is behind changes.
	e.Do(engine.Step{Do: set, Node: 1, Name: "id", Text: "z"})
	e.Do(engine.Step{Do: text, Node: 1, At: 1, Text: "b"})
	if dom.Print(l) != `<p id="x">a</p>` || dom.Print(e.Doc()) != `<p id="z">ab</p>` {
		t.Errorf("the documents are %+v, %+v", l, e.Doc())
	}
}

func TestItemsAreWhatIsPainted(t *testing.T) {
	p := page(`<a href="h">x</a><img src="v">`, "a {color: red} a:visited {color: green; background-color: blue; width: 1px; display: none}")
	for _, c := range []struct {
		seen        []string
		color, back int64
	}{{nil, 0xff0000, 0xffffff}, {[]string{"k"}, 0xff0000, 0xffffff}, {[]string{"k", "h"}, 0x008000, 0x0000ff}} {
		p.Seen = c.seen
		l, errno := made(t, p).Items()
		// Fills of the root and the link, the letter, and the image as large as it is.
		if errno != api.OK || len(l) != 4 || l[1].Color != c.back || l[2].Color != c.color || l[2].Rect != r(0, 0, 8, 16) || l[3].Rect != r(8, 0, 16, 16) || l[3].Wide != 7 || l[3].High != 9 {
			t.Errorf("%q: %+v, %d", c.seen, l, errno)
		}
	}
}

// An answer's lists are its own.
func TestAnswersShareNothing(t *testing.T) {
	e := made(t, page("<p>a b</p>", "p {width: 8px}"))
	for _, x := range []engine.Step{{Do: place, Node: 1}, {Do: rects, Node: 1}, {Do: rects, Node: 2}} {
		e.Do(x)
		a := e.Do(x)
		kept := slices.Clone(a.Rects)
		clear(a.Rects)
		if b := e.Do(x); !slices.Equal(b.Rects, kept) {
			t.Errorf("%+v: now %+v, was %v", x, b, kept)
		}
	}
	l, _ := e.Items()
	kept := slices.Clone(l)
	clear(l)
	if l, _ = e.Items(); !slices.Equal(l, kept) {
		t.Errorf("items are now %+v, were %+v", l, kept)
	}
}
