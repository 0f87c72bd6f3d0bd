package engine

import (
	"scrim/api"
	"scrim/dom"
	"scrim/layout"
	"scrim/measure"
	"scrim/meter"
	"scrim/query"
)

// What a step does.
const (
	doElement = iota
	doText
	doRemove
	doSet
	doSetText
	doComputed
	doPlace
	doRects
	doHit
	doPrint
	manyDos
)

func isOne(do int) bool { return do >= 0 && do < manyDos }

func changes(do int) bool { return do >= doElement && do <= doSetText }

func asksPage(do int) bool { return do >= doComputed && do <= doHit }

// acts tells by what each step is done.
func (e *Engine) acts() [manyDos]func(x Step) Answer {
	return [manyDos]func(x Step) Answer{
		doElement:  e.element,
		doText:     e.text,
		doRemove:   e.remove,
		doSet:      e.set,
		doSetText:  e.setText,
		doComputed: e.computed,
		doPlace:    e.place,
		doRects:    e.rects,
		doHit:      e.hit,
		doPrint:    e.print,
	}
}

// answer tells all of an answer but Steps.
func (e *Engine) answer(x Step) Answer {
	if !isOne(x.Do) {
		return Answer{Err: api.ErrArg}
	}
	if !e.meter.Take(e.cost(x)) {
		return Answer{Err: api.ErrSteps}
	}
	e.upToDate = e.upToDate || asksPage(x.Do)
	act := e.acts()[x.Do]
	return act(x)
}

func (e *Engine) cost(x Step) int {
	switch {
	case changes(x.Do):
		return 1 + len(e.doc) + len(x.Name) + len(x.Text)
	case asksPage(x.Do) && !e.upToDate:
		return 1 + meter.Bound(len(e.doc), len(e.rules), e.bytes())
	}
	return 1
}

func (e *Engine) element(x Step) Answer {
	return e.become(dom.Element(e.doc, x.Node, x.At, x.Text))
}

func (e *Engine) text(x Step) Answer { return e.become(dom.Text(e.doc, x.Node, x.At, x.Text)) }

func (e *Engine) remove(x Step) Answer { return e.become(dom.Remove(e.doc, x.Node)) }

func (e *Engine) set(x Step) Answer { return e.become(dom.Set(e.doc, x.Node, x.Name, x.Text)) }

func (e *Engine) setText(x Step) Answer { return e.become(dom.SetText(e.doc, x.Node, x.Text)) }

// become makes the document what a change told, unless that was an error.
func (e *Engine) become(doc []api.Node, errno api.Errno) Answer {
	if errno == api.OK {
		e.doc, e.upToDate = doc, false
	}
	return Answer{Err: errno}
}

func (e *Engine) computed(x Step) Answer {
	text, errno := query.Computed(e.public(), x.Node, x.Name)
	return Answer{Err: errno, Text: text}
}

func (e *Engine) place(x Step) Answer {
	return e.laid(func(s measure.Scene, r layout.Result) Answer {
		place, is := query.Place(s, r, x.Node)
		if !is {
			return Answer{}
		}
		return Answer{N: 1, Rects: []api.Rect{place}}
	})
}

func (e *Engine) rects(x Step) Answer {
	return e.laid(func(s measure.Scene, r layout.Result) Answer {
		return Answer{Rects: query.Rects(s, r, x.Node)}
	})
}

func (e *Engine) hit(x Step) Answer {
	return e.laid(func(s measure.Scene, r layout.Result) Answer {
		return Answer{N: query.Hit(s, r, x.X, x.Y)}
	})
}

// laid tells what is asked of a page that can be laid.
func (e *Engine) laid(ask func(s measure.Scene, r layout.Result) Answer) Answer {
	s, r, errno := e.lay()
	if errno != api.OK {
		return Answer{Err: api.ErrOver}
	}
	return ask(s, r)
}

func (e *Engine) print(Step) Answer { return Answer{Text: dom.Print(e.doc)} }
