package engine

import (
	"scrim/api"
	"scrim/box"
	"scrim/cascade"
	"scrim/layout"
	"scrim/measure"
	"scrim/meter"
	"scrim/res"
	"scrim/sheet"
)

// parts are what an engine is made of.
type parts struct {
	doc   []api.Node
	rules []sheet.Rule
	table res.Table
	seen  []string
	room  int64
	meter *meter.Meter
}

// public tells the styles that may be told.
func (p *parts) public() []cascade.Style { return cascade.Public(p.doc, p.rules) }

// lay lays the document by what is public. It is laid anew each time: whether the page is up to date decides what a step costs, and nothing that is told.
func (p *parts) lay() (measure.Scene, layout.Result, api.Errno) {
	styles := p.public()
	boxes, errno := box.Build(p.doc, styles)
	if errno != api.OK {
		return measure.Scene{}, layout.Result{}, errno
	}
	s := measure.Scene{Doc: p.doc, Boxes: boxes, Styles: styles, Table: p.table}
	r, errno := layout.Lay(s, p.room)
	return s, r, errno
}

// bytes tells how many bytes all texts have.
func (p *parts) bytes() int {
	n := 0
	for _, node := range p.doc {
		n += len(node.Text)
	}
	return n
}
