package selector

import (
	"strings"

	"scrim/scan"
	"scrim/token"
)

// What parts' texts begin with, or are.
const (
	anyTag      = "*"
	idSign      = "#"
	classSign   = "."
	linkText    = ":link"
	visitedText = ":visited"
)

const (
	kidSign = '>'
	// between are the bytes that may stand between parts.
	between = " \t\n\r>"
	// begins are the bytes that a part of a part begins with; no name has one.
	begins = "#.:"
)

// Read tells the selector of a text.
func Read(s string) (Selector, bool) {
	texts, isClose, is := parted(scan.Lower(scan.Trim(s)))
	if !is || len(texts) > mostParts {
		return Selector{}, false
	}
	x := Selector{Close: isClose}
	for _, text := range texts {
		p, is := readSimple(text)
		if !is {
			return Selector{}, false
		}
		x.Parts = append(x.Parts, p)
	}
	return x, true
}

// parted tells the texts of parts, whatever they are, and of each but the first one whether a > stands ahead. There may be one > between two, and none behind all.
func parted(s string) ([]string, []bool, bool) {
	var texts []string
	var isClose []bool
	at := 0
parts:
	for {
		text := untilAny(s[at:], between)
		texts = append(texts, text)
		kid := false
		for at += len(text); at < len(s); at++ {
			switch isKid := s[at] == kidSign; {
			case isKid && kid:
				return nil, nil, false
			case isKid:
				kid = true
			case strings.IndexByte(between, s[at]) < 0:
				isClose = append(isClose, kid)
				continue parts
			}
		}
		return texts, isClose, !kid
	}
}

// untilAny tells what stands ahead of the first of some bytes.
func untilAny(s, bytes string) string {
	if end := strings.IndexAny(s, bytes); end >= 0 {
		return s[:end]
	}
	return s
}

// readSimple reads a part that is in small letters already.
func readSimple(s string) (Simple, bool) {
	var p Simple
	tag := untilAny(s, begins)
	if tag != anyTag {
		p.Tag = tag
	}
	if s == "" || p.Tag != "" && !token.Name(p.Tag) {
		return Simple{}, false
	}
	left := s[len(tag):]
	for n := 0; left != ""; n++ {
		own := left[:1+len(untilAny(left[1:], begins))]
		if n == mostOwn || !p.take(own) {
			return Simple{}, false
		}
		left = left[len(own):]
	}
	return p, true
}

// take takes a part of a part, if it is one.
func (p *Simple) take(own string) bool {
	sign, name := own[:1], own[1:]
	switch {
	case own == linkText:
		p.Link = true
	case own == visitedText:
		p.Visited = true
	case sign == idSign && token.Name(name):
		p.Ids = append(p.Ids, name)
	case sign == classSign && token.Name(name):
		p.Classes = append(p.Classes, name)
	default:
		return false
	}
	return true
}
