package value_test

import (
	"math"
	"strings"
	"testing"

	"scrim/api"
	"scrim/value"
)

const most = 63999999999 // 999999999.999999, by units

// sort is what the chapter tells of a property.
type sort struct {
	prop  int
	name  string
	kinds string
	words string
	first string
}

// sorts are the rows of the chapter's table. A length, or a number, with a + is of 0 or more.
func sorts() []sort {
	return []sort{
		{1, "display", "word", "block inline flex none", "inline"},
		{2, "width", "auto length+ percent", "", "auto"},
		{3, "height", "auto length+ percent", "", "auto"},
		{4, "margin-top", "auto length", "", "0px"},
		{5, "margin-right", "auto length", "", "0px"},
		{6, "margin-bottom", "auto length", "", "0px"},
		{7, "margin-left", "auto length", "", "0px"},
		{8, "padding-top", "length+", "", "0px"},
		{9, "padding-right", "length+", "", "0px"},
		{10, "padding-bottom", "length+", "", "0px"},
		{11, "padding-left", "length+", "", "0px"},
		{12, "border-top-width", "length+", "", "0px"},
		{13, "border-right-width", "length+", "", "0px"},
		{14, "border-bottom-width", "length+", "", "0px"},
		{15, "border-left-width", "length+", "", "0px"},
		{16, "color", "color", "", "#000000"},
		{17, "background-color", "color", "", "#ffffff"},
		{18, "font-size", "length+", "", "16px"},
		{19, "text-align", "word", "left center right", "left"},
		{20, "flex-grow", "number+", "", "0"},
		{21, "flex-shrink", "number+", "", "1"},
		{22, "flex-direction", "word", "row column", "row"},
		{23, "justify-content", "word", "start center end between", "start"},
		{24, "order", "number", "", "0"},
		{25, "left", "length", "", "0px"},
		{26, "top", "length", "", "0px"},
	}
}

func (s sort) has(kind string) bool {
	for _, k := range strings.Fields(s.kinds) {
		if k == kind {
			return true
		}
	}
	return false
}

// wrong are numbers of no property.
func wrong() []int {
	return []int{0, -1, 27, 28, 99, math.MaxInt, math.MinInt, 1 << 40, -26}
}

func v(kind int, n int64) api.Value { return api.Value{Kind: kind, N: n} }

// P8.1

func TestConstants(t *testing.T) {
	props := []int{0, value.Display, value.Width, value.Height, value.MarginTop, value.MarginRight, value.MarginBottom, value.MarginLeft,
		value.PaddingTop, value.PaddingRight, value.PaddingBottom, value.PaddingLeft, value.BorderTop, value.BorderRight, value.BorderBottom, value.BorderLeft,
		value.Color, value.Background, value.FontSize, value.TextAlign, value.Grow, value.Shrink, value.Direction, value.Justify, value.Order, value.Left, value.Top, value.Many}
	for want, prop := range props {
		if prop != want {
			t.Errorf("%d is %d", want, prop)
		}
	}
	words := [][]int{{value.Block, value.Inline, value.Flex, value.Hidden}, {value.AtLeft, value.Center, value.AtRight}, {value.Row, value.Column}, {value.Start, value.Middle, value.End, value.Between}}
	for i, l := range words {
		for want, word := range l {
			if word != want {
				t.Errorf("words %d: %d is %d", i, want, word)
			}
		}
	}
}

func TestPropAndName(t *testing.T) {
	for _, s := range sorts() {
		if got := value.Prop(s.name); got != s.prop {
			t.Errorf("Prop(%q) = %d", s.name, got)
		}
		if got := value.Name(s.prop); got != s.name {
			t.Errorf("Name(%d) = %q", s.prop, got)
		}
		for _, other := range []string{strings.ToUpper(s.name), " " + s.name, s.name + " ", s.name + "s", s.name[1:], s.name[:len(s.name)-1]} {
			if got := value.Prop(other); got != 0 {
				t.Errorf("Prop(%q) = %d", other, got)
			}
		}
	}
	for _, name := range []string{"", " ", "margin", "padding", "border-width", "border-top", "background", "flex", "none", "px", "right", "bottom", "0", "1"} {
		if got := value.Prop(name); got != 0 {
			t.Errorf("Prop(%q) = %d", name, got)
		}
	}
	for _, prop := range wrong() {
		if got := value.Name(prop); got != "" {
			t.Errorf("Name(%d) = %q", prop, got)
		}
	}
}

// reading is a text, and whether it is one of the kind and what it is then.
type reading struct {
	s string
	n int64
}

func numbers() []reading {
	return []reading{
		{"0", 0}, {"1", 64}, {"9", 576}, {"10", 640}, {"007", 448}, {"000000000", 0}, {"999999999", 999999999 * 64},
		{"0.5", 32}, {"1.5", 96}, {"1.0", 64}, {"1.000000", 64}, {"00.50", 32}, {"0.25", 16}, {"12.5", 800},
		// Towards 0.
		{"0.01", 0}, {"0.015624", 0}, {"0.015625", 1}, {"0.015626", 1}, {"0.031249", 1}, {"0.999999", 63}, {"1.999999", 127}, {"0.000001", 0},
		{"999999999.999999", most}, {"999999999.984375", most}, {"999999999.984374", most - 1},
	}
}

// noNumbers are texts that look like numbers.
func noNumbers() []string {
	return []string{
		"", "-", ".", "-.", "1.", ".5", "-.5", "1..5", "1.5.5", "--1", "+1", "- 1", " ", "1-", "1.-5", "1.+5", "1.5-", "1 .5", "1. 5", "1,5", "1e3", "1_0", "0x1", "x", "1x", "١", "１", "½", "∞", "inf", "nan", "1\x00", "\xff1",
		"1000000000", "0000000000", "1.1234567", "1.0000000", "9999999999.1", strings.Repeat("9", 100), "0." + strings.Repeat("0", 100),
	}
}

// checkRead holds what a text is read as, in all the ways in which it may be written; of the kind none it is none.
func checkRead(t *testing.T, prop int, s string, want api.Value) {
	t.Helper()
	for _, text := range []string{s, " " + s, s + " ", "\t\n\r" + s + "\r\n\t ", strings.ToUpper(s)} {
		if got, is := value.Read(prop, text); got != want || is != (want.Kind != api.None) {
			t.Errorf("Read(%d, %q) = %v, %v, want %v", prop, text, got, is, want)
		}
	}
}

// orNone is what the property reads, if it may.
func orNone(may bool, kind int, n int64) api.Value {
	if !may {
		return api.Value{}
	}
	return v(kind, n)
}

func TestReadNumbersOfAllProperties(t *testing.T) {
	for _, s := range sorts() {
		anyLength, anyNumber := s.has("length"), s.has("number")
		length, number := anyLength || s.has("length+"), anyNumber || s.has("number+")
		for _, c := range numbers() {
			// Below 0, but what is 0 units is 0.
			checkRead(t, s.prop, c.s+"px", orNone(length, api.Length, c.n))
			checkRead(t, s.prop, "-"+c.s+"px", orNone(anyLength || length && c.n == 0, api.Length, -c.n))
			checkRead(t, s.prop, c.s+"%", orNone(s.has("percent"), api.Percent, c.n))
			checkRead(t, s.prop, "-"+c.s+"%", orNone(s.has("percent") && c.n == 0, api.Percent, 0))
			checkRead(t, s.prop, "-"+c.s, orNone(anyNumber || number && c.n == 0, api.Number, -c.n))
			if c.s != "0" {
				checkRead(t, s.prop, c.s, orNone(number, api.Number, c.n))
			}
		}
		// A length's text may be 0, alone.
		checkRead(t, s.prop, "0", map[bool]api.Value{true: v(api.Length, 0), false: orNone(number, api.Number, 0)}[length])
		for _, text := range noNumbers() {
			for _, sign := range []string{"", "px", "%"} {
				checkRead(t, s.prop, text+sign, api.Value{})
				checkRead(t, s.prop, "-"+text+sign, api.Value{})
			}
		}
		for _, text := range []string{"px", "%", "1 px", "1 %", "1pxpx", "1%%", "1px%", "1%px", "1p x", "1p", "1x", "px1", "%1", "1em", "1pt", "1px;", "1px 1px", "1px!important", "0 px", "0em"} {
			checkRead(t, s.prop, text, api.Value{})
		}
	}
}

func TestReadWordsOfAllProperties(t *testing.T) {
	var all []string
	for _, s := range sorts() {
		all = append(all, strings.Fields(s.words)...)
	}
	for _, s := range sorts() {
		checkRead(t, s.prop, "auto", orNone(s.has("auto"), api.Auto, 0))
		for _, text := range append(all, "", "hidden", "middle", "inherit", "initial", "block inline", "blocks", "bloc", "-row", "row;", "r ow", "auto auto", "aut", "0auto", "none none") {
			want := api.Value{}
			for n, word := range strings.Fields(s.words) {
				if word == text {
					want = v(api.Word, int64(n))
				}
			}
			checkRead(t, s.prop, text, want)
		}
	}
}

func TestReadColorsOfAllProperties(t *testing.T) {
	for _, s := range sorts() {
		for text, n := range map[string]int64{
			"black": 0, "white": 0xffffff, "red": 0xff0000, "green": 0x008000, "blue": 0x0000ff,
			"#000000": 0, "#ffffff": 0xffffff, "#0a1b2c": 0x0a1b2c, "#9f8e7d": 0x9f8e7d, "#000001": 1, "#123456": 0x123456,
		} {
			checkRead(t, s.prop, text, orNone(s.has("color"), api.Color, n))
		}
		for _, text := range []string{
			"#", "#12345", "#1234567", "#12345g", "#g00000", "#fff", "# 00000", "#00000 0", "##00000", "#-00001", "#+00001", "#0x0001", "#1_2_34", "#00000é", "00000a", "ffffff", "-#000000",
			"lime", "yellow", "gray", "redd", "re", "red blue", "#red", "transparent", "rgb(0,0,0)",
		} {
			checkRead(t, s.prop, text, api.Value{})
		}
		if s.has("color") {
			checkRead(t, s.prop, "0", api.Value{})
			checkRead(t, s.prop, "000000", api.Value{})
		}
	}
}

func TestReadBlanksThatAreNone(t *testing.T) {
	for _, b := range []string{"\v", "\f", "\x00", "\u00a0", "\xa0"} {
		for _, s := range sorts() {
			checkRead(t, s.prop, b+s.first, api.Value{})
			checkRead(t, s.prop, s.first+b, api.Value{})
		}
	}
	// Letters that aren't of these, but have such small ones.
	for _, text := range []string{"BLAC\u212a", "bloc\u212a", "\u017ftart", "fle\u2179"} {
		for _, s := range sorts() {
			if got, is := value.Read(s.prop, text); is {
				t.Errorf("Read(%d, %q) = %v", s.prop, text, got)
			}
		}
	}
}

func TestReadOfNoProperty(t *testing.T) {
	for _, prop := range wrong() {
		for _, text := range []string{"", "0", "1px", "1", "1%", "auto", "red", "#000000", "block", "none"} {
			if got, is := value.Read(prop, text); got != (api.Value{}) || is {
				t.Errorf("Read(%d, %q) = %v, %v", prop, text, got, is)
			}
		}
	}
}

// range of N, of a kind of a property: from, to, and whether there are any.
func (s sort) span(kind int) (int64, int64, bool) {
	switch kind {
	case api.Auto:
		return 0, 0, s.has("auto")
	case api.Length:
		if s.has("length") {
			return -most, most, true
		}
		return 0, most, s.has("length+")
	case api.Percent:
		return 0, most, s.has("percent")
	case api.Color:
		return 0, 0xffffff, s.has("color")
	case api.Word:
		return 0, int64(len(strings.Fields(s.words)) - 1), s.has("word")
	case api.Number:
		if s.has("number") {
			return -most, most, true
		}
		return 0, most, s.has("number+")
	}
	return 0, 0, false
}

func edges() []int64 {
	return []int64{math.MinInt64, -most - 1, -most, 1 - most, -65, -64, -1, 0, 1, 2, 3, 4, 63, 64, 100, 0xfffffe, 0xffffff, 0x1000000, most - 1, most, most + 1, api.MostFixed, math.MaxInt64}
}

func TestMay(t *testing.T) {
	kinds := []int{math.MinInt, -1, 0, 1, 2, 3, 4, 5, 6, 7, 8, 63, 64, 65, math.MaxInt}
	for _, s := range sorts() {
		for _, kind := range kinds {
			from, to, is := s.span(kind)
			for _, n := range edges() {
				want := is && from <= n && n <= to
				if got := value.May(s.prop, v(kind, n)); got != want {
					t.Errorf("May(%d, %v) = %v", s.prop, v(kind, n), got)
				}
				if got := value.Print(s.prop, v(kind, n)); (got != "") != want {
					t.Errorf("Print(%d, %v) = %q", s.prop, v(kind, n), got)
				}
			}
		}
	}
	for _, prop := range wrong() {
		for _, kind := range kinds {
			if value.May(prop, v(kind, 0)) || value.Print(prop, v(kind, 0)) != "" {
				t.Errorf("May(%d, %v)", prop, v(kind, 0))
			}
		}
	}
}

// P8.2

func TestPrint(t *testing.T) {
	for _, c := range []struct {
		prop int
		v    api.Value
		want string
	}{
		{value.Width, v(api.Auto, 0), "auto"},
		{value.MarginLeft, v(api.Auto, 0), "auto"},
		{value.Width, v(api.Length, 0), "0px"},
		{value.Width, v(api.Length, 1), "0.015625px"},
		{value.Width, v(api.Length, 2), "0.03125px"},
		{value.Width, v(api.Length, 32), "0.5px"},
		{value.Width, v(api.Length, 63), "0.984375px"},
		{value.Width, v(api.Length, 64), "1px"},
		{value.Width, v(api.Length, 65), "1.015625px"},
		{value.Width, v(api.Length, 96), "1.5px"},
		{value.Width, v(api.Length, 640), "10px"},
		{value.Width, v(api.Length, 6400), "100px"},
		{value.Width, v(api.Length, most), "999999999.984375px"},
		{value.Width, v(api.Length, most-63), "999999999px"},
		{value.Width, v(api.Percent, 0), "0%"},
		{value.Width, v(api.Percent, 6400), "100%"},
		{value.Width, v(api.Percent, 3200), "50%"},
		{value.Width, v(api.Percent, 4), "0.0625%"},
		{value.Top, v(api.Length, -1), "-0.015625px"},
		{value.Top, v(api.Length, -32), "-0.5px"},
		{value.Top, v(api.Length, -64), "-1px"},
		{value.Top, v(api.Length, -80), "-1.25px"},
		{value.Top, v(api.Length, -most), "-999999999.984375px"},
		{value.Order, v(api.Number, 0), "0"},
		{value.Order, v(api.Number, -64), "-1"},
		{value.Order, v(api.Number, -8), "-0.125"},
		{value.Grow, v(api.Number, 640), "10"},
		{value.Shrink, v(api.Number, 16), "0.25"},
		{value.Color, v(api.Color, 0), "#000000"},
		{value.Color, v(api.Color, 10), "#00000a"},
		{value.Background, v(api.Color, 0xff0000), "#ff0000"},
		{value.Background, v(api.Color, 0x008000), "#008000"},
		{value.Color, v(api.Color, 0xabcdef), "#abcdef"},
		{value.Color, v(api.Color, 0xffffff), "#ffffff"},
	} {
		if got := value.Print(c.prop, c.v); got != c.want {
			t.Errorf("Print(%d, %v) = %q, want %q", c.prop, c.v, got, c.want)
		}
	}
	for _, s := range sorts() {
		for n, want := range strings.Fields(s.words) {
			if got := value.Print(s.prop, v(api.Word, int64(n))); got != want {
				t.Errorf("Print(%d) of word %d is %q, want %q", s.prop, n, got, want)
			}
		}
	}
}

// P8.3

func TestFirst(t *testing.T) {
	for _, s := range sorts() {
		got := value.First(s.prop)
		if text := value.Print(s.prop, got); text != s.first {
			t.Errorf("First(%d) = %v, which is %q, want %q", s.prop, got, text, s.first)
		}
	}
	for prop, want := range map[int]api.Value{
		value.Display: v(api.Word, 1), value.Width: v(api.Auto, 0), value.MarginTop: v(api.Length, 0), value.Color: v(api.Color, 0), value.Background: v(api.Color, 0xffffff),
		value.FontSize: v(api.Length, 1024), value.Grow: v(api.Number, 0), value.Shrink: v(api.Number, 64), value.Left: v(api.Length, 0),
	} {
		if got := value.First(prop); got != want {
			t.Errorf("First(%d) = %v, want %v", prop, got, want)
		}
	}
	for _, prop := range wrong() {
		if got := value.First(prop); got != (api.Value{}) {
			t.Errorf("First(%d) = %v", prop, got)
		}
	}
}

func TestPassed(t *testing.T) {
	for _, s := range sorts() {
		want := s.name == "color" || s.name == "font-size" || s.name == "text-align"
		if got := value.Passed(s.prop); got != want {
			t.Errorf("Passed(%d) = %v", s.prop, got)
		}
	}
	for _, prop := range wrong() {
		if value.Passed(prop) {
			t.Errorf("Passed(%d)", prop)
		}
	}
}
