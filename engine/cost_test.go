package engine_test

import (
	"math"
	"strings"
	"testing"

	"scrim/api"
	"scrim/engine"
)

// cost is a step, how much it takes, and its error.
type cost struct {
	x     engine.Step
	takes int
	err   api.Errno
}

// costs holds what steps of one engine take, one behind the other.
func costs(t *testing.T, e *engine.Engine, l ...cost) {
	t.Helper()
	taken := e.Do(engine.Step{Do: -1}).Steps
	for i, c := range l {
		got := e.Do(c.x)
		if got.Steps-taken != c.takes || got.Err != c.err {
			t.Errorf("%d: %+v takes %d, %d, want %d, %d", i, c.x, got.Steps-taken, got.Err, c.takes, c.err)
		}
		taken = got.Steps
	}
}

// P22.2: what steps cost

func TestCostOfChanges(t *testing.T) {
	// Three nodes.
	costs(t, made(t, page("<p>x</p>", "")),
		cost{engine.Step{Do: element, Text: "b"}, 1 + 3 + 1, api.OK},
		// A node more; the Name counts, too, where it isn't asked, and so does each byte of a letter.
		cost{engine.Step{Do: element, Text: "img", Name: "four"}, 1 + 4 + 3 + 4, api.OK},
		cost{engine.Step{Do: text, Text: "ä€"}, 1 + 5 + 5, api.OK},
		cost{engine.Step{Do: set, Node: 3, Name: "id", Text: "ö"}, 1 + 6 + 2 + 2, api.OK},
		cost{engine.Step{Do: remove, Node: 1, Name: "ab", Text: "c", X: 9, Y: 9, At: 9}, 1 + 6 + 3, api.OK},
		cost{engine.Step{Do: setText, Node: 3, Text: strings.Repeat("y", 500), Name: "n"}, 1 + 5 + 501, api.OK},
		cost{engine.Step{Do: remove, Node: 1}, 1 + 5, api.OK},
		cost{engine.Step{Do: remove, Node: 1}, 1 + 4, api.OK},
		cost{engine.Step{Do: remove, Node: 1}, 1 + 3, api.OK},
		cost{engine.Step{Do: text, Text: ""}, 1 + 1, api.OK})
}

// What has an error costs as much.
func TestCostOfErrors(t *testing.T) {
	costs(t, made(t, page("<p>x</p>", "")),
		cost{engine.Step{Do: element, Node: -1, Text: "b"}, 1 + 3 + 1, api.ErrName},
		cost{engine.Step{Do: element, Text: "root"}, 1 + 3 + 4, api.ErrArg},
		cost{engine.Step{Do: text, Text: strings.Repeat("x", 5000)}, 1 + 3 + 5000, api.ErrFull},
		cost{engine.Step{Do: remove}, 1 + 3, api.ErrArg},
		cost{engine.Step{Do: set, Node: 2, Name: "id"}, 1 + 3 + 2, api.ErrArg},
		cost{engine.Step{Do: setText, Node: 7}, 1 + 3, api.ErrName},
		cost{engine.Step{Do: 10, Name: "x"}, 0, api.ErrArg},
		cost{engine.Step{Do: -1, Text: "x"}, 0, api.ErrArg},
		cost{engine.Step{Do: math.MaxInt}, 0, api.ErrArg})
}

// bound of a page of five nodes, four rules, and texts of three bytes; and of such of one node less, and one byte.
const (
	html  = "<p>ä</p><b>x</b>"
	bound = 5*4 + 5*5 + 3 + 1
	less  = 4*4 + 4*4 + 1 + 1
)

func TestCostOfAsking(t *testing.T) {
	for _, x := range []engine.Step{
		{Do: computed, Name: "width", Text: "xyz"}, {Do: place, Node: 1, Name: "xyz"}, {Do: rects, Node: 2}, {Do: hit, X: 5, Y: 5},
	} {
		e := made(t, page(html, "p, b {color: red}"))
		costs(t, e, cost{x, 1 + bound, api.OK}, cost{x, 1, api.OK}, cost{x, 1, api.OK})
		// It is up to date for all others then, too.
		costs(t, e, cost{engine.Step{Do: computed, Name: "color"}, 1, api.OK}, cost{engine.Step{Do: place}, 1, api.OK}, cost{engine.Step{Do: rects}, 1, api.OK}, cost{engine.Step{Do: hit}, 1, api.OK})
		// Behind each change it isn't.
		costs(t, e, cost{engine.Step{Do: remove, Node: 2}, 1 + 5, api.OK}, cost{x, 1 + less, api.OK}, cost{x, 1, api.OK})
	}
}

func TestEachChangeIsBehindTheDate(t *testing.T) {
	asked := engine.Step{Do: place}
	for _, x := range []engine.Step{
		{Do: element, Text: "b"}, {Do: text, Text: "x"}, {Do: remove, Node: 1}, {Do: set, Node: 1, Name: "id"}, {Do: setText, Node: 1, Text: "y"},
		// What changes nothing that is to be seen is a change, too.
		{Do: text, Text: ""}, {Do: setText, Node: 2, Text: "ä"}, {Do: setText, Node: 1, Text: "ä"},
	} {
		e := made(t, page(html, ""))
		e.Do(asked)
		once := e.Do(asked).Steps
		changed := e.Do(x)
		if a := e.Do(asked); a.Steps-changed.Steps <= 1 || changed.Err != api.OK {
			t.Errorf("behind %+v (%+v) asking takes %d", x, changed, a.Steps-changed.Steps)
		}
		// One that has an error isn't.
		before := e.Do(asked).Steps
		x.Node, x.Name = 99, "id"
		failed := e.Do(x)
		if a := e.Do(asked); a.Steps-failed.Steps != 1 || failed.Err != api.ErrName || before < once {
			t.Errorf("behind %+v (%+v) asking takes %d", x, failed, a.Steps-failed.Steps)
		}
	}
}

// What isn't asked of the page brings it not up to date; what is does, also with an error.
func TestWhatBringsUpToDate(t *testing.T) {
	const css = "p, b {color: red}"
	asked := cost{engine.Step{Do: hit}, 1 + bound, api.OK}
	e := made(t, page(html, css))
	costs(t, e, cost{engine.Step{Do: print}, 1, api.OK}, cost{engine.Step{Do: print, Name: "ab", Text: "cd"}, 1, api.OK})
	e.Items()
	e.Doc()
	costs(t, e, cost{engine.Step{Do: 10}, 0, api.ErrArg}, cost{engine.Step{Do: remove}, 1 + 5, api.ErrArg}, asked)
	// Items and Doc cost nothing.
	e.Items()
	e.Doc()
	costs(t, e, cost{engine.Step{Do: print}, 1, api.OK}, cost{engine.Step{Do: hit}, 1, api.OK})
	costs(t, made(t, page(html, css)), cost{engine.Step{Do: computed, Name: "x"}, 1 + bound, api.ErrName}, cost{engine.Step{Do: hit}, 1, api.OK})
	costs(t, made(t, page(html, css)), cost{engine.Step{Do: place, Node: 99}, 1 + bound, api.OK}, cost{engine.Step{Do: hit}, 1, api.OK})
	wide := page(html, "p {width: 10000%}")
	wide.Room = api.MostFixed
	costs(t, made(t, wide), cost{engine.Step{Do: rects}, 1 + bound, api.ErrOver}, cost{engine.Step{Do: place}, 1, api.ErrOver}, cost{engine.Step{Do: computed, Name: "width"}, 1, api.OK})
	costs(t, made(t, wide), cost{engine.Step{Do: computed, Name: "width"}, 1 + bound, api.OK}, cost{engine.Step{Do: rects}, 1, api.ErrOver})
}

func TestCostOfNothing(t *testing.T) {
	e := made(t, engine.Page{Limit: 100})
	// One node, no rules, no bytes.
	costs(t, e, cost{engine.Step{Do: hit}, 1 + 0 + 1 + 0 + 1, api.OK}, cost{engine.Step{Do: print}, 1, api.OK}, cost{engine.Step{Do: text}, 1 + 1, api.OK})
}

// P22.2: limits

// limited tells an engine that may take so much.
func limited(t *testing.T, limit int) *engine.Engine {
	t.Helper()
	p := page(html, "p, b {color: red}")
	p.Limit = limit
	return made(t, p)
}

// holdOver holds that an engine is over, and changes no more.
func holdOver(t *testing.T, e *engine.Engine, limit int) {
	t.Helper()
	for do := range 10 {
		x := engine.Step{Do: do, Node: 1, Name: "width", Text: "b"}
		if a := e.Do(x); !same(a, engine.Answer{Err: api.ErrSteps, Steps: limit}) {
			t.Errorf("over: %+v: %+v", x, a)
		}
	}
	for _, do := range []int{-1, 10} {
		if a := e.Do(engine.Step{Do: do}); !same(a, engine.Answer{Err: api.ErrArg, Steps: limit}) {
			t.Errorf("over: Do %d: %+v", do, a)
		}
	}
	// What costs nothing is told.
	if l, errno := e.Items(); len(l) == 0 || errno != api.OK || len(e.Doc()) != 5 {
		t.Errorf("over: %+v, %d", l, errno)
	}
}

func TestLimits(t *testing.T) {
	for _, c := range []cost{
		{engine.Step{Do: print}, 1, api.OK},
		{engine.Step{Do: hit}, 1 + bound, api.OK},
		{engine.Step{Do: computed, Name: "x"}, 1 + bound, api.ErrName},
		{engine.Step{Do: set, Node: 1, Name: "id", Text: "xy"}, 1 + 5 + 4, api.OK},
		{engine.Step{Do: remove}, 1 + 5, api.ErrArg},
	} {
		// Just so much is left.
		e := limited(t, c.takes)
		if a := e.Do(c.x); a.Err != c.err || a.Steps != c.takes {
			t.Errorf("%+v of %d: %+v", c.x, c.takes, a)
		}
		// Nothing is left, but it isn't over: that comes by the next step.
		if a := e.Do(engine.Step{Do: 10}); !same(a, engine.Answer{Err: api.ErrArg, Steps: c.takes}) {
			t.Errorf("%+v of %d, and Do 10: %+v", c.x, c.takes, a)
		}
		holdOver(t, e, c.takes)
		// One less: all is taken, and nothing is done.
		e = limited(t, c.takes-1)
		if a := e.Do(c.x); !same(a, engine.Answer{Err: api.ErrSteps, Steps: c.takes - 1}) {
			t.Errorf("%+v of %d: %+v", c.x, c.takes-1, a)
		}
		holdOver(t, e, c.takes-1)
		// One more: that is left.
		e = limited(t, c.takes+1)
		e.Do(c.x)
		if a := e.Do(engine.Step{Do: print}); a.Err != api.OK || a.Steps != c.takes+1 {
			t.Errorf("%+v of %d, and 9: %+v", c.x, c.takes+1, a)
		}
	}
}

func TestLimitOfNone(t *testing.T) {
	e := limited(t, 0)
	if a := e.Do(engine.Step{Do: 10}); !same(a, engine.Answer{Err: api.ErrArg}) {
		t.Errorf("%+v", a)
	}
	holdOver(t, e, 0)
}

// What costs too much isn't done, though what costs less might be.
func TestOverByTheFirstThatIsTooMuch(t *testing.T) {
	e := limited(t, 20)
	costs(t, e, cost{engine.Step{Do: print}, 1, api.OK}, cost{engine.Step{Do: place}, 19, api.ErrSteps})
	holdOver(t, e, 20)
	e = limited(t, 20)
	costs(t, e, cost{engine.Step{Do: text, Text: strings.Repeat("x", 100)}, 20, api.ErrSteps})
	holdOver(t, e, 20)
	if n := len(e.Doc()); n != 5 {
		t.Errorf("%d nodes", n)
	}
}
