package engine_test

import (
	"strings"
	"testing"

	"scrim/api"
	"scrim/engine"
	"scrim/paint"
)

// holdPlace holds where a node stands.
func holdPlace(t *testing.T, e *engine.Engine, node int, want api.Rect) {
	t.Helper()
	check(t, e, one{engine.Step{Do: place, Node: node}, engine.Answer{N: 1, Rects: []api.Rect{want}}})
}

// The document's ten examples of the whole, by their numbers.

func TestExamplesOfPlaces(t *testing.T) {
	// 1, 2
	holdPlace(t, made(t, page("<p>ab</p>", "")), 1, r(0, 0, 100, 16))
	p := page("<p>ab cd</p>", "")
	p.Room = 64 * 20
	holdPlace(t, made(t, p), 1, r(0, 0, 20, 32))
	check(t, made(t, p), one{engine.Step{Do: rects, Node: 2}, engine.Answer{Rects: []api.Rect{r(0, 0, 16, 16), r(0, 16, 16, 16)}}})
	// 3
	holdPlace(t, made(t, page("<p></p>", "p {width: 40px; height: 5px; margin: 0 auto}")), 1, r(30, 0, 40, 5))
	// 4
	e := made(t, page("<p></p><p class=\"c\"></p>", "p {height: 10px; margin-bottom: 3px} .c {margin-top: 8px}"))
	holdPlace(t, e, 2, r(0, 18, 100, 10))
	// 5
	e = made(t, page("<f><p></p><p></p></f>", "p {width: 20px; flex-grow: 1}"))
	holdPlace(t, e, 2, r(0, 0, 50, 0))
	holdPlace(t, e, 3, r(50, 0, 50, 0))
}

func TestExamplesOfLinks(t *testing.T) {
	p := page(`<a href="h">x</a>`, "a {color: red} a:visited {color: green; width: 5px; display: block}")
	p.Seen = []string{"h"}
	e := made(t, p)
	// 6
	check(t, e, one{engine.Step{Do: computed, Node: 1, Name: "color"}, engine.Answer{Text: "#ff0000"}})
	l, _ := e.Items()
	if len(l) != 3 || l[2] != (paint.Item{Kind: paint.Text, Rect: r(0, 0, 8, 16), Color: 0x008000, Text: "x", Wide: 32}) {
		t.Errorf("items are %+v", l)
	}
	// 7
	check(t, e, one{engine.Step{Do: computed, Node: 1, Name: "width"}, engine.Answer{Text: "auto"}}, one{engine.Step{Do: computed, Node: 1, Name: "display"}, engine.Answer{Text: "inline"}})
	holdPlace(t, e, 1, r(0, 0, 8, 16))
}

func TestExampleOfImages(t *testing.T) {
	// 8
	e := made(t, page(`<img src="v">`, ""))
	holdPlace(t, e, 1, r(0, 0, 16, 16))
	l, _ := e.Items()
	if len(l) != 2 || l[1] != (paint.Item{Kind: paint.Picture, Rect: r(0, 0, 16, 16), Text: "v", Wide: 7, High: 9}) {
		t.Errorf("items are %+v", l)
	}
}

func TestExamplesOfSteps(t *testing.T) {
	// 9, and the chapter's own.
	check(t, made(t, page("a<i>b</i>c", "")),
		one{engine.Step{Do: element, At: 1, Text: "p"}, engine.Answer{}},
		one{engine.Step{Do: print}, engine.Answer{Text: "a<p></p><i>b</i>c"}},
		one{engine.Step{Do: remove, Node: 2}, engine.Answer{}},
		one{engine.Step{Do: print}, engine.Answer{Text: "a<i>b</i>c"}})
	check(t, made(t, engine.Page{Limit: 10}),
		one{engine.Step{Do: 0, Node: 0, Text: "p"}, engine.Answer{}},
		one{engine.Step{Do: 9}, engine.Answer{Text: "<p></p>"}})
}

// W2: where a number is too great, all that asks the layout is ErrOver, and the document stays; a page that is made small again answers.
func TestLayoutThatIsntExact(t *testing.T) {
	// 10
	p := page(`<p><p class="c">x</p></p>`, ".c {width: 10000%}")
	p.Css += "p {width: 10000%}"
	p.Room = api.MostFixed
	e := made(t, p)
	holdOverAll(t, e, `<p><p class="c">x</p></p>`)
	// By less of it.
	if a := e.Do(engine.Step{Do: remove, Node: 1}); a.Err != api.OK {
		t.Fatalf("%+v", a)
	}
	holdPlace(t, e, 0, api.Rect{W: api.MostFixed})
	if l, errno := e.Items(); len(l) != 1 || errno != api.OK {
		t.Errorf("items are %+v, %d", l, errno)
	}
	// By an attribute of it, and back.
	p = page("<p>x</p>", ".c {width: 10000%}")
	p.Room = api.MostFixed
	e = made(t, p)
	holdPlace(t, e, 1, api.Rect{W: api.MostFixed, H: 1024})
	for range 2 {
		e.Do(engine.Step{Do: set, Node: 1, Name: "class", Text: "c"})
		holdOverAll(t, e, `<p class="c">x</p>`)
		e.Do(engine.Step{Do: set, Node: 1, Name: "class"})
		holdPlace(t, e, 1, api.Rect{W: api.MostFixed, H: 1024})
		check(t, e, one{engine.Step{Do: hit, X: 5, Y: 5}, engine.Answer{N: 2}}, one{engine.Step{Do: rects, Node: 2}, engine.Answer{Rects: []api.Rect{r(0, 0, 8, 16)}}})
	}
}

// holdOverAll holds what is told of a page whose layout isn't exact.
func holdOverAll(t *testing.T, e *engine.Engine, html string) {
	t.Helper()
	var all []one
	for _, do := range []int{place, rects, hit} {
		// There being no such node is no error that is told ahead.
		for _, node := range []int{0, 1, 2, -1, 99} {
			all = append(all, one{engine.Step{Do: do, Node: node}, engine.Answer{Err: api.ErrOver}})
		}
	}
	all = append(all, one{engine.Step{Do: computed, Node: 1, Name: "display"}, engine.Answer{Text: "block"}}, one{engine.Step{Do: computed, Node: 99}, engine.Answer{Err: api.ErrName}}, one{engine.Step{Do: print}, engine.Answer{Text: html}})
	check(t, e, all...)
	if l, errno := e.Items(); len(l) != 0 || errno != api.ErrOver {
		t.Errorf("items are %+v, %d", l, errno)
	}
}

// The greatest page ends, and so does what is asked of it.
func TestGreatestPage(t *testing.T) {
	p := page(strings.Repeat("<f>", api.MostDepth-2)+strings.Repeat("<a>x y</a>", 24)+"<a>", "")
	p.Css = strings.Repeat("f > f f * a, :link, .a.b.c, * * * * * * * * {flex-grow: 1; padding: 1px; display: flex}", api.MostRules)
	e := made(t, p)
	if n := len(e.Doc()); n != api.MostNodes {
		t.Errorf("%d nodes", n)
	}
	for node := range e.Doc() {
		if a := e.Do(engine.Step{Do: place, Node: node}); a.Err != api.OK || a.N != 1 {
			t.Fatalf("%d: %+v", node, a)
		}
	}
	if l, errno := e.Items(); errno != api.OK || len(l) < api.MostDepth {
		t.Errorf("%d items, %d", len(l), errno)
	}
}

// A page's own text may have more bytes than can be read; it is told all the same, and can be made less.
func TestTextOfManySigns(t *testing.T) {
	e := made(t, page(strings.Repeat("&", api.MostBytes), ""))
	if a := e.Do(engine.Step{Do: print}); a.Text != strings.Repeat("&amp;", api.MostBytes) || a.Err != api.OK {
		t.Errorf("%d bytes, %d", len(a.Text), a.Err)
	}
	check(t, e, one{engine.Step{Do: text, Text: "x"}, engine.Answer{Err: api.ErrFull}}, one{engine.Step{Do: setText, Node: 1, Text: "x"}, engine.Answer{}}, one{engine.Step{Do: print}, engine.Answer{Text: "x"}})
}
