package engine_test

import (
	"math"
	"math/rand"
	"slices"
	"strings"
	"testing"

	"scrim/api"
	"scrim/box"
	"scrim/cascade"
	"scrim/dom"
	"scrim/engine"
	"scrim/layout"
	"scrim/measure"
	"scrim/paint"
	"scrim/query"
	"scrim/res"
	"scrim/sheet"
	"scrim/tree"
)

// model does steps by the chapter's words.
type model struct {
	page     engine.Page
	doc      []api.Node
	rules    []sheet.Rule
	taken    int
	isOver   bool
	upToDate bool
}

func modelOf(t *testing.T, p engine.Page) *model {
	t.Helper()
	l, e := tree.Read(p.Html)
	rules, f := sheet.Read(p.Css)
	if e != api.OK || f != api.OK {
		t.Fatalf("%+v: %d, %d", p, e, f)
	}
	return &model{page: p, doc: l, rules: rules}
}

func (m *model) cost(x engine.Step) int {
	nodes, bytes := len(m.doc), 0
	for _, n := range m.doc {
		bytes += len(n.Text)
	}
	switch {
	case x.Do < 5:
		return 1 + nodes + len(x.Name) + len(x.Text)
	case x.Do < 9 && !m.upToDate:
		return 1 + nodes*len(m.rules) + nodes*nodes + bytes + 1
	}
	return 1
}

func (m *model) take(n int) bool {
	if m.isOver || n > m.page.Limit-m.taken {
		m.taken, m.isOver = m.page.Limit, true
		return false
	}
	m.taken += n
	return true
}

func (m *model) lay() (measure.Scene, layout.Result, api.Errno) {
	s := measure.Scene{Doc: m.doc, Styles: cascade.Public(m.doc, m.rules), Table: m.page.Table}
	s.Boxes, _ = box.Build(s.Doc, s.Styles)
	r, e := layout.Lay(s, m.page.Room)
	return s, r, e
}

func (m *model) items() ([]paint.Item, api.Errno) {
	s, r, e := m.lay()
	if e != api.OK {
		return nil, e
	}
	return paint.Items(s, cascade.Paint(m.doc, m.rules, m.page.Seen), r), api.OK
}

func (m *model) do(x engine.Step) engine.Answer {
	if x.Do < 0 || x.Do > 9 {
		return engine.Answer{Err: api.ErrArg, Steps: m.taken}
	}
	if !m.take(m.cost(x)) {
		return engine.Answer{Err: api.ErrSteps, Steps: m.taken}
	}
	a := engine.Answer{}
	switch {
	case x.Do < 5:
		a.Err = m.change(x)
	case x.Do < 9:
		m.upToDate = true
		a = m.ask(x)
	default:
		a.Text = dom.Print(m.doc)
	}
	a.Steps = m.taken
	return a
}

func (m *model) change(x engine.Step) api.Errno {
	var l []api.Node
	var e api.Errno
	switch x.Do {
	case 0:
		l, e = dom.Element(m.doc, x.Node, x.At, x.Text)
	case 1:
		l, e = dom.Text(m.doc, x.Node, x.At, x.Text)
	case 2:
		l, e = dom.Remove(m.doc, x.Node)
	case 3:
		l, e = dom.Set(m.doc, x.Node, x.Name, x.Text)
	case 4:
		l, e = dom.SetText(m.doc, x.Node, x.Text)
	}
	if e == api.OK {
		m.doc, m.upToDate = l, false
	}
	return e
}

func (m *model) ask(x engine.Step) engine.Answer {
	if x.Do == 5 {
		text, e := query.Computed(cascade.Public(m.doc, m.rules), x.Node, x.Name)
		return engine.Answer{Text: text, Err: e}
	}
	s, r, e := m.lay()
	if e != api.OK {
		return engine.Answer{Err: api.ErrOver}
	}
	switch x.Do {
	case 6:
		if place, is := query.Place(s, r, x.Node); is {
			return engine.Answer{N: 1, Rects: []api.Rect{place}}
		}
		return engine.Answer{}
	case 7:
		return engine.Answer{Rects: query.Rects(s, r, x.Node)}
	}
	return engine.Answer{N: query.Hit(s, r, x.X, x.Y)}
}

// somePage is one of links, words, images and elements of each sort.
func somePage(t *testing.T, some *rand.Rand) engine.Page {
	t.Helper()
	parts := []string{`<a href="h">`, `<a href="k">`, "</a>", "<p>", "<p>", "</p>", "</p>", "<f>", "</f>", "<n>", "</n>", "a", "bb c", " ", `<img src="u">`, `<img src="v">`, "<img>", "&lt;"}
	heads := []string{"a", "p", "f", "a:visited", "a:visited > p", ":link", "img", "*", "#x", ".c"}
	bodies := []string{"color: red", "background-color: blue", "display: block", "display: none", "width: 20px", "width: 50%", "height: 3px", "left: 3px", "order: -1", "flex-grow: 1", "margin: 2px auto", "width: 10000%", "padding: 10000px", "width: 10000%"}
	size := func() int64 { return int64(some.Intn(3000)) }
	isOpen := func() bool { return some.Intn(2) == 0 }
	for {
		p := engine.Page{Css: sorts, Room: size() * 5, Limit: 1 << 40}
		if some.Intn(4) == 0 {
			p.Room = api.MostFixed
		}
		for range some.Intn(20) {
			p.Html += parts[some.Intn(len(parts))]
		}
		for range some.Intn(9) {
			p.Css += heads[some.Intn(len(heads))] + "{" + bodies[some.Intn(len(bodies))] + "}"
		}
		p.Table = res.Table{Images: []res.Image{{Src: "u", W: size(), H: size(), Open: isOpen()}, {Src: "v", W: size(), H: size(), Open: isOpen()}}, Font: res.Font{Advance: int64(some.Intn(1025)), Open: isOpen()}}
		p.Seen = [][]string{nil, {"h"}, {"k"}, {"h", "k"}, {"u"}}[some.Intn(5)]
		if _, e := tree.Read(p.Html); e == api.OK {
			return p
		}
	}
}

// someStep is any step, mostly of a document of so many nodes.
func someStep(some *rand.Rand, nodes int) engine.Step {
	x := engine.Step{Do: some.Intn(10), Node: some.Intn(nodes + 1), At: some.Intn(4) - some.Intn(2)}
	x.Name = []string{"width", "color", "href", "id", "class", "", "display", "X"}[some.Intn(8)]
	x.Text = []string{"p", "a", "f", "img", "", " ", "h", "k", "x", "<&>", "ä b", "root", "c"}[some.Intn(13)]
	x.X, x.Y = int64(some.Intn(7000)-500), int64(some.Intn(5000)-500)
	switch some.Intn(40) {
	case 0:
		x.Do = []int{-1, 10, math.MinInt, math.MaxInt}[some.Intn(4)]
	case 1:
		x.Node = []int{-1, math.MinInt, math.MaxInt}[some.Intn(3)]
	case 2:
		x.X, x.Y = math.MinInt64, math.MaxInt64
	case 3:
		x.Text = strings.Repeat("y", 3900+some.Intn(200))
	}
	return x
}

// P22.2, P22.3

func TestManySteps(t *testing.T) {
	some := rand.New(rand.NewSource(50))
	errors := map[api.Errno]int{}
	for range 1200 {
		p := somePage(t, some)
		if some.Intn(3) == 0 {
			p.Limit = some.Intn(4000)
		}
		e, m := made(t, p), modelOf(t, p)
		taken := 0
		for range 25 {
			x := someStep(some, len(m.doc))
			got, want := e.Do(x), m.do(x)
			if !same(got, want) {
				t.Fatalf("of %+v: %+v: %+v, want %+v", p, x, got, want)
			}
			errors[got.Err]++
			if got.Steps < taken || got.Steps > p.Limit {
				t.Fatalf("%d are taken, were %d of %d", got.Steps, taken, p.Limit)
			}
			taken = got.Steps
		}
		items, errno := e.Items()
		if want, f := m.items(); !slices.Equal(items, want) || errno != f {
			t.Fatalf("items of %+v are\n%+v, %d, want\n%+v, %d", p, items, errno, want, f)
		}
		if got := dom.Print(e.Doc()); got != dom.Print(m.doc) || !tree.May(e.Doc()) {
			t.Fatalf("the document of %+v is %q, want %q", p, got, dom.Print(m.doc))
		}
	}
	for errno, least := range map[api.Errno]int{api.OK: 8000, api.ErrArg: 1000, api.ErrName: 1000, api.ErrSteps: 1000, api.ErrOver: 100, api.ErrFull: 20} {
		if errors[errno] < least {
			t.Errorf("errors %v", errors)
		}
	}
}

// P22.4

// asked is all that is told of an engine, but Steps.
func asked(e *engine.Engine) []engine.Answer {
	var l []engine.Answer
	ask := func(x engine.Step) {
		a := e.Do(x)
		a.Steps = 0
		l = append(l, a)
	}
	for node := range e.Doc() {
		for _, name := range []string{"display", "color", "width", "background-color", "left", "x"} {
			ask(engine.Step{Do: computed, Node: node, Name: name})
		}
		ask(engine.Step{Do: place, Node: node})
		ask(engine.Step{Do: rects, Node: node})
		ask(engine.Step{Do: hit, X: int64(node) * 97, Y: int64(node) * 331})
	}
	ask(engine.Step{Do: print})
	return l
}

// holdLike holds that two engines tell the same, but Steps.
func holdLike(t *testing.T, what string, a, b *engine.Engine) {
	t.Helper()
	if !slices.EqualFunc(asked(a), asked(b), alike) {
		t.Fatalf("%s: %q tells %+v, and %q %+v", what, dom.Print(a.Doc()), asked(a), dom.Print(b.Doc()), asked(b))
	}
	one, e := a.Items()
	two, f := b.Items()
	if !slices.Equal(one, two) || e != f {
		t.Fatalf("%s: items are %+v, %d, and %+v, %d", what, one, e, two, f)
	}
}

// W5: behind any steps a page answers as one that was read anew from its own text.
func TestChangedPagesAnswerAsNewOnes(t *testing.T) {
	some := rand.New(rand.NewSource(51))
	for range 150 {
		p := somePage(t, some)
		e := made(t, p)
		for range 5 {
			for range 4 {
				e.Do(someStep(some, len(e.Doc())))
			}
			q := p
			q.Html = e.Do(engine.Step{Do: print}).Text
			anew := made(t, q)
			holdLike(t, "read anew", e, anew)
			// Both are up to date: they cost as much from now on, too.
			was, other := e.Do(engine.Step{Do: print}).Steps, anew.Do(engine.Step{Do: print}).Steps
			for range 3 {
				x := someStep(some, len(e.Doc()))
				a, b := e.Do(x), anew.Do(x)
				if !alike(a, b) || a.Steps-was != b.Steps-other {
					t.Fatalf("%+v: %+v, read anew %+v", x, a, b)
				}
				was, other = a.Steps, b.Steps
			}
		}
	}
}

// otherSecrets tells a page of which nothing but secrets is another one.
func otherSecrets(t *testing.T, some *rand.Rand, p engine.Page) engine.Page {
	t.Helper()
	q := p
	q.Table.Images = slices.Clone(p.Table.Images)
	for i, x := range q.Table.Images {
		if !x.Open {
			q.Table.Images[i].W, q.Table.Images[i].H = int64(some.Intn(1<<20)), int64(some.Intn(1<<20))
		}
	}
	if !q.Table.Font.Open {
		q.Table.Font.Advance = int64(some.Intn(1025))
	}
	q.Seen = [][]string{nil, {"h"}, {"k"}, {"k", "h"}, {"x", ""}}[some.Intn(5)]
	if !res.Alike(p.Table, q.Table) {
		t.Fatalf("%v, %v aren't alike", p.Table, q.Table)
	}
	return q
}

// W3, W4: under other secrets answers, errors and Steps are the same, and items but for what isn't open.
func TestSecretsArePaintedAndNotTold(t *testing.T) {
	some := rand.New(rand.NewSource(52))
	differ := 0
	for range 800 {
		p := somePage(t, some)
		if some.Intn(3) == 0 {
			p.Limit = some.Intn(3000)
		}
		a, b := made(t, p), made(t, otherSecrets(t, some, p))
		for range 30 {
			x := someStep(some, len(a.Doc()))
			if one, two := a.Do(x), b.Do(x); !same(one, two) {
				t.Fatalf("of %+v: %+v: %+v, by other secrets %+v", p, x, one, two)
			}
		}
		one, e := a.Items()
		two, f := b.Items()
		if !slices.Equal(paint.Open(one), paint.Open(two)) || e != f {
			t.Fatalf("of %+v: items are %+v, by other secrets %+v", p, one, two)
		}
		if !slices.Equal(one, two) {
			differ++
		}
	}
	if differ < 200 {
		t.Errorf("no more than %d differ", differ)
	}
}

// What has an error changes no other answer but by Steps.
func TestErrorsChangeStepsAlone(t *testing.T) {
	some := rand.New(rand.NewSource(53))
	errors := 0
	for range 400 {
		p := somePage(t, some)
		a, b := made(t, p), made(t, p)
		for range 30 {
			x := someStep(some, len(a.Doc()))
			one := a.Do(x)
			if one.Err != api.OK {
				errors++
				continue
			}
			if two := b.Do(x); !alike(one, two) {
				t.Fatalf("of %+v: %+v: %+v, without what has errors %+v", p, x, one, two)
			}
		}
		holdLike(t, "without what has errors", a, b)
	}
	if errors < 2000 {
		t.Errorf("no more than %d errors", errors)
	}
}

// W6: a step costs no more than that.
func TestStepsAreBounded(t *testing.T) {
	some := rand.New(rand.NewSource(54))
	for range 500 {
		p := somePage(t, some)
		rules, _ := sheet.Read(p.Css)
		e := made(t, p)
		taken := 0
		for range 30 {
			l := e.Doc()
			bytes := 0
			for _, n := range l {
				bytes += len(n.Text)
			}
			x := someStep(some, len(l))
			most := 1 + len(x.Name) + len(x.Text) + len(l) + len(l)*len(rules) + len(l)*len(l) + bytes + 1
			a := e.Do(x)
			if a.Steps-taken > most || a.Steps < taken {
				t.Fatalf("%+v takes %d, of at most %d", x, a.Steps-taken, most)
			}
			taken = a.Steps
		}
	}
}

// R4: the same steps answer the same.
func TestTheSameStepsAnswerTheSame(t *testing.T) {
	some := rand.New(rand.NewSource(55))
	for range 200 {
		p := somePage(t, some)
		a, b := made(t, p), made(t, p)
		for range 30 {
			x := someStep(some, len(a.Doc()))
			one := a.Do(x)
			// What is asked beside changes nothing.
			a.Items()
			a.Doc()
			if two := b.Do(x); !same(one, two) {
				t.Fatalf("of %+v: %+v: %+v, then %+v", p, x, one, two)
			}
		}
	}
}
