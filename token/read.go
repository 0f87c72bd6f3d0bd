package token

import (
	"bytes"
	"slices"
	"strings"

	"scrim/api"
)

// mostName is how many bytes a name has at the most.
const mostName = 20

// trial is what a token that is no text may be: read takes it off the beginning of what is left, and tells what is left behind it.
type trial struct {
	read func(left []byte) (Token, []byte, bool)
}

func trials() [2]trial {
	return [2]trial{{read: readOpening}, {read: readClosing}}
}

// first tells the token that what is left begins with, unless that is a text.
func first(left []byte) (Token, []byte, bool) {
	for _, t := range trials() {
		if token, behind, is := t.read(left); is {
			return token, behind, true
		}
	}
	return Token{}, nil, false
}

// behindBytes tells what is left behind n bytes. It has no room at its end, so that nothing can be put behind it into the text.
func behindBytes(left []byte, n int) []byte {
	return left[n:len(left):len(left)]
}

func readOpening(left []byte) (Token, []byte, bool) {
	name, left, is := readBegin(left, "<")
	if !is {
		return Token{}, nil, false
	}
	attrs, left := readAttrs(left)
	left, is = readEnd(left)
	if !is {
		return Token{}, nil, false
	}
	return Token{Kind: Open, Name: name, Attrs: attrs}, left, true
}

func readClosing(left []byte) (Token, []byte, bool) {
	name, left, is := readBegin(left, "</")
	if !is {
		return Token{}, nil, false
	}
	left, is = readEnd(left)
	if !is {
		return Token{}, nil, false
	}
	return Token{Kind: Close, Name: name}, left, true
}

// readBegin reads what is to stand at the beginning, and the name behind it.
func readBegin(left []byte, begin string) (string, []byte, bool) {
	if !bytes.HasPrefix(left, []byte(begin)) {
		return "", nil, false
	}
	return readName(behindBytes(left, len(begin)))
}

// readEnd reads blanks, and the > behind them.
func readEnd(left []byte) ([]byte, bool) {
	n := countBlanks(left)
	if n == len(left) || left[n] != '>' {
		return nil, false
	}
	return behindBytes(left, n+1), true
}

// readAttrs reads all attributes that are there. One that is wrong is left, and is no end of an opening, either.
func readAttrs(left []byte) ([]api.Attr, []byte) {
	var attrs []api.Attr
	for {
		attr, behind, is := readAttr(left)
		if !is {
			return attrs, left
		}
		if !slices.ContainsFunc(attrs, func(a api.Attr) bool { return a.Name == attr.Name }) {
			attrs = append(attrs, attr)
		}
		left = behind
	}
}

func readAttr(left []byte) (api.Attr, []byte, bool) {
	n := countBlanks(left)
	if n == 0 {
		return api.Attr{}, nil, false
	}
	name, left, is := readName(behindBytes(left, n))
	if !is {
		return api.Attr{}, nil, false
	}
	value, left := readValue(left)
	return api.Attr{Name: name, Value: value}, left, true
}

// readValue reads = and what is quoted, if it stands there whole.
func readValue(left []byte) (string, []byte) {
	quoted, is := bytes.CutPrefix(left, []byte(`="`))
	end := bytes.IndexByte(quoted, '"')
	if !is || end < 0 {
		return "", left
	}
	return Tell(string(quoted[:end])), behindBytes(quoted, end+1)
}

// readName reads the longest name there is, and tells it in small letters.
func readName(left []byte) (string, []byte, bool) {
	n := countName(left)
	if n == 0 || n > mostName {
		return "", nil, false
	}
	return strings.ToLower(string(left[:n])), behindBytes(left, n), true
}

// countName tells how many bytes at the beginning look like a name, however many these are.
func countName(left []byte) int {
	n := 0
	for n < len(left) && (isLetter(left[n]) || n > 0 && isInName(left[n])) {
		n++
	}
	return n
}

func countBlanks(left []byte) int {
	n := 0
	for n < len(left) && isBlank(left[n]) {
		n++
	}
	return n
}

func isLetter(b byte) bool { return 'a' <= b && b <= 'z' || 'A' <= b && b <= 'Z' }

// isInName tells whether a byte that is no letter may be in a name, but not begin it.
func isInName(b byte) bool { return '0' <= b && b <= '9' || b == '-' }

func isBlank(b byte) bool { return b == ' ' || b == '\t' || b == '\n' || b == '\r' }
