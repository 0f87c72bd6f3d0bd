package sheet

import (
	"strings"

	"scrim/scan"
	"scrim/value"
)

const strongSign = "!important"

// sides are how many values a short name stands for: top, right, bottom, left.
const sides = 4

// readDecls tells the declarations of one text: one, or one of each side, or none.
func readDecls(part string) []Decl {
	head, behind, is := strings.Cut(part, ":")
	if !is {
		return nil
	}
	name := scan.Lower(scan.Trim(head))
	text, strong := strings.CutSuffix(scan.Lower(scan.Trim(behind)), strongSign)
	if props, is := shortFor(name); is {
		return readSides(props, scan.Words(text), strong)
	}
	prop := value.Prop(name)
	v, is := value.Read(prop, text)
	if !is {
		return nil
	}
	return []Decl{{Prop: prop, Value: v, Strong: strong}}
}

// shortFor tells the properties for which a short name stands, side by side.
func shortFor(name string) ([sides]int, bool) {
	switch name {
	case "margin":
		return [sides]int{value.MarginTop, value.MarginRight, value.MarginBottom, value.MarginLeft}, true
	case "padding":
		return [sides]int{value.PaddingTop, value.PaddingRight, value.PaddingBottom, value.PaddingLeft}, true
	case "border-width":
		return [sides]int{value.BorderTop, value.BorderRight, value.BorderBottom, value.BorderLeft}, true
	}
	return [sides]int{}, false
}

// readSides reads each side's value; where one is none, there are none of all.
func readSides(props [sides]int, texts []string, strong bool) []Decl {
	if len(texts) < 1 || len(texts) > sides {
		return nil
	}
	which := shared(len(texts))
	var l []Decl
	for side := range sides {
		v, is := value.Read(props[side], texts[which[side]])
		if !is {
			return nil
		}
		l = append(l, Decl{Prop: props[side], Value: v, Strong: strong})
	}
	return l
}

// shared tells of each side which one of so many values it has: one that isn't told has that of the side across from it, or the one for all.
func shared(values int) [sides]int {
	return [sides][sides]int{
		{0, 0, 0, 0},
		{0, 1, 0, 1},
		{0, 1, 2, 1},
		{0, 1, 2, 3},
	}[values-1]
}
