package value

import (
	"scrim/api"
	"scrim/scan"
)

// kinds is a set of kinds of values: of each kind a bit.
type kinds int

const (
	auto    kinds = 1 << api.Auto
	length  kinds = 1 << api.Length
	percent kinds = 1 << api.Percent
	color   kinds = 1 << api.Color
	word    kinds = 1 << api.Word
	number  kinds = 1 << api.Number
)

func (k kinds) has(kind int) bool {
	return kind > api.None && kind <= api.Number && k&(1<<kind) != 0
}

// The greatest numbers of values. A number's text has nine digits and six behind the dot, which is enough for all units.
const (
	mostNumber = 999999999*api.Unit + api.Unit - 1
	mostColor  = 0xffffff
)

// sort is of which sort a property's values are: their kinds, the least length or number, the words in their order, and the value at first.
type sort struct {
	name  string
	kinds kinds
	least int64
	words string
	first api.Value
}

func (s sort) allWords() []string { return scan.Words(s.words) }

// sortOf tells a property's sort, and of what is none a sort of no values.
func sortOf(prop int) sort {
	if prop < 0 || prop >= Many {
		return sort{}
	}
	return sorts()[prop]
}

func sorts() [Many]sort {
	size := func(name string) sort {
		return sort{name: name, kinds: auto | length | percent, first: api.Value{Kind: api.Auto}}
	}
	margin := func(name string) sort {
		return sort{name: name, kinds: auto | length, least: -mostNumber, first: api.Value{Kind: api.Length}}
	}
	side := func(name string, first int64) sort {
		return sort{name: name, kinds: length, first: api.Value{Kind: api.Length, N: first}}
	}
	shift := func(name string) sort {
		return sort{name: name, kinds: length, least: -mostNumber, first: api.Value{Kind: api.Length}}
	}
	paint := func(name string, first int64) sort {
		return sort{name: name, kinds: color, first: api.Value{Kind: api.Color, N: first}}
	}
	choice := func(name, words string, first int64) sort {
		return sort{name: name, kinds: word, words: words, first: api.Value{Kind: api.Word, N: first}}
	}
	count := func(name string, least, first int64) sort {
		return sort{name: name, kinds: number, least: least, first: api.Value{Kind: api.Number, N: first}}
	}
	return [Many]sort{
		Display:       choice("display", "block inline flex none", Inline),
		Width:         size("width"),
		Height:        size("height"),
		MarginTop:     margin("margin-top"),
		MarginRight:   margin("margin-right"),
		MarginBottom:  margin("margin-bottom"),
		MarginLeft:    margin("margin-left"),
		PaddingTop:    side("padding-top", 0),
		PaddingRight:  side("padding-right", 0),
		PaddingBottom: side("padding-bottom", 0),
		PaddingLeft:   side("padding-left", 0),
		BorderTop:     side("border-top-width", 0),
		BorderRight:   side("border-right-width", 0),
		BorderBottom:  side("border-bottom-width", 0),
		BorderLeft:    side("border-left-width", 0),
		Color:         paint("color", 0),
		Background:    paint("background-color", mostColor),
		FontSize:      side("font-size", 16*api.Unit),
		TextAlign:     choice("text-align", "left center right", AtLeft),
		Grow:          count("flex-grow", 0, 0),
		Shrink:        count("flex-shrink", 0, api.Unit),
		Direction:     choice("flex-direction", "row column", Row),
		Justify:       choice("justify-content", "start center end between", Start),
		Order:         count("order", -mostNumber, 0),
		Left:          shift("left"),
		Top:           shift("top"),
	}
}
