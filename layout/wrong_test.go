package layout_test

import (
	"math"
	"math/rand"
	"slices"
	"testing"

	"scrim/api"
	"scrim/box"
	"scrim/cascade"
	"scrim/layout"
	"scrim/measure"
	"scrim/tree"
	"scrim/value"
)

// someNumber tells a number that may stand where a place in a list does.
func someNumber(some *rand.Rand, n int) int {
	switch some.Intn(12) {
	case 0:
		return -1
	case 1:
		return n + some.Intn(3)
	case 2:
		return []int{math.MinInt, math.MaxInt}[some.Intn(2)]
	}
	return some.Intn(max(n, 1))
}

// wrongScene is one whose parts don't belong together: boxes stand in themselves, are of no kind, or of no node.
func wrongScene(t *testing.T, some *rand.Rand) measure.Scene {
	t.Helper()
	s := someScene(t, some, some.Intn(2) == 0)
	for range 1 + some.Intn(6) {
		at := some.Intn(len(s.Boxes))
		b := &s.Boxes[at]
		switch some.Intn(7) {
		case 0:
			b.Node = someNumber(some, len(s.Doc))
		case 1:
			b.Kind = some.Intn(9) - 1
		case 2:
			b.Parent = someNumber(some, len(s.Boxes))
		case 3:
			b.Kids = append(slices.Clone(b.Kids), someNumber(some, len(s.Boxes)))
		case 4:
			slices.Reverse(b.Kids)
		case 5:
			s.Styles = s.Styles[:some.Intn(len(s.Styles)+1)]
		case 6:
			for node := range s.Styles {
				s.Styles[node][some.Intn(value.Many)] = api.Value{Kind: some.Intn(9) - 1, N: []int64{0, -1, 5, top + 1, math.MinInt64, math.MaxInt64}[some.Intn(6)]}
			}
		}
	}
	return s
}

// R1: every call ends, and none panics.
func TestWrongScenesEnd(t *testing.T) {
	some := rand.New(rand.NewSource(24))
	errors := map[api.Errno]int{}
	for range 6000 {
		s, room := wrongScene(t, some), someRoom(some, some.Intn(2) == 0)
		for at := -1; at <= len(s.Boxes); at++ {
			layout.Style(s, at)
			layout.Wish(s, at)
		}
		got, e := layout.Lay(s, room)
		if e == api.OK && len(got.Rects) != len(s.Boxes) || e != api.OK && (len(got.Rects) > 0 || len(got.Frags) > 0) {
			t.Fatalf("Lay of %+v in %d: %+v, %d", s, room, got, e)
		}
		errors[e]++
	}
	if errors[api.OK] < 1000 || errors[api.ErrOver] < 1000 {
		t.Errorf("errors %v", errors)
	}
}

// A row of more kids than room can be shared by.
func TestRowOfTooMany(t *testing.T) {
	s := scene(t, "<f><b></b></f>", sorts+"b {width: 1px}")
	row := func(n int) measure.Scene {
		boxes := []box.Box{{Parent: -1, Kind: box.Block, Kids: []int{1}}, {Node: 1, Kind: box.Flex}}
		for at := range n {
			boxes[1].Kids = append(boxes[1].Kids, 2+at)
			boxes = append(boxes, box.Box{Node: 2, Kind: box.Block, Parent: 1})
		}
		return measure.Scene{Doc: s.Doc, Boxes: boxes, Styles: s.Styles, Table: s.Table}
	}
	holdErr(t, "a row of 100", row(100), 64000, api.OK)
	holdErr(t, "a row of 101", row(101), 64000, api.ErrOver)
}

// R3, R4: an answer shares nothing with the scene, which stays; the same calls answer the same.
func TestAnswersShareNothing(t *testing.T) {
	some := rand.New(rand.NewSource(25))
	for range 300 {
		s, room := someScene(t, some, false), someRoom(some, false)
		doc, styles := tree.Copy(s.Doc), slices.Clone(s.Styles)
		boxes, _ := box.Build(s.Doc, s.Styles)
		one, _ := layout.Lay(s, room)
		two, _ := layout.Lay(s, room)
		if !equal(one, two) {
			t.Fatalf("%+v, then %+v", one, two)
		}
		clear(two.Rects)
		clear(two.Frags)
		three, _ := layout.Lay(s, room)
		isSame := slices.EqualFunc(s.Boxes, boxes, func(a, b box.Box) bool {
			return a.Node == b.Node && a.Kind == b.Kind && a.Parent == b.Parent && slices.Equal(a.Kids, b.Kids)
		})
		if !equal(one, three) || !isSame || !slices.Equal(s.Styles, styles) || !tree.May(s.Doc) || len(s.Doc) != len(doc) {
			t.Fatalf("the scene is now %+v, laid %+v", s, three)
		}
	}
	if got := layout.Style(measure.Scene{Boxes: []box.Box{{Node: 5}}}, 0); got != (cascade.Style{}) {
		t.Errorf("the style of no node is %v", got)
	}
}
