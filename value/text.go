package value

import (
	"slices"
	"strconv"
	"strings"

	"scrim/api"
)

const (
	autoText    = "auto"
	lengthSign  = "px"
	percentSign = "%"
	colorSign   = "#"
)

// How many digits there may be ahead of a number's dot, and behind it; the latter are millionths, then.
const (
	mostAhead  = 9
	mostBehind = 6
	millionths = 1000000 // of a whole
)

// read tells the number of a value of a kind that a text is, whether it may be the property's or not.
func read(kind, prop int, text string) (int64, bool) {
	switch kind {
	case api.Auto:
		return 0, text == autoText
	case api.Length:
		if text == "0" {
			return 0, true
		}
		return readWith(lengthSign, text)
	case api.Percent:
		return readWith(percentSign, text)
	case api.Color:
		return readColor(text)
	case api.Word:
		n := slices.Index(sortOf(prop).allWords(), text)
		return int64(n), n >= 0
	case api.Number:
		return readNumber(text)
	}
	return 0, false
}

func readWith(sign, text string) (int64, bool) {
	bare, is := strings.CutSuffix(text, sign)
	if !is {
		return 0, false
	}
	return readNumber(bare)
}

func readNumber(text string) (int64, bool) {
	digits, isBelow := strings.CutPrefix(text, "-")
	ahead, behind, hasDot := strings.Cut(digits, ".")
	if !hasDot {
		behind = "0"
	}
	n, is := readDigits(ahead, mostAhead)
	part, isPart := readDigits(behind, mostBehind)
	if !is || !isPart {
		return 0, false
	}
	for range mostBehind - len(behind) {
		part *= 10
	}
	n = n*api.Unit + part*api.Unit/millionths
	if isBelow {
		return -n, true
	}
	return n, true
}

// readDigits reads one digit at least, and so many at the most.
func readDigits(digits string, most int) (int64, bool) {
	if len(digits) > most {
		return 0, false
	}
	n, err := strconv.ParseUint(digits, 10, 63)
	return int64(n), err == nil
}

func readColor(text string) (int64, bool) {
	if n, is := colors()[text]; is {
		return n, true
	}
	digits, is := strings.CutPrefix(text, colorSign)
	if !is || len(digits) != 6 {
		return 0, false
	}
	n, err := strconv.ParseUint(digits, 16, 63)
	return int64(n), err == nil
}

func colors() map[string]int64 {
	return map[string]int64{"black": 0x000000, "white": 0xffffff, "red": 0xff0000, "green": 0x008000, "blue": 0x0000ff}
}

// printNumber tells units exactly: each one is so many millionths.
func printNumber(n int64) string {
	sign := ""
	if n < 0 {
		sign, n = "-", -n
	}
	ahead := sign + strconv.FormatInt(n/api.Unit, 10)
	part := n % api.Unit * (millionths / api.Unit)
	if part == 0 {
		return ahead
	}
	return ahead + "." + strings.TrimRight(padded(part, 10, mostBehind), "0")
}

func printColor(n int64) string { return colorSign + padded(n, 16, 6) }

// padded tells a number by a base, with noughts ahead.
func padded(n int64, base, digits int) string {
	text := strconv.FormatInt(n, base)
	return strings.Repeat("0", digits-len(text)) + text
}
