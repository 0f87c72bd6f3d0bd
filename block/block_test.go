package block_test

import (
	"math"
	"slices"
	"testing"

	"scrim/api"
	"scrim/block"
	"scrim/cascade"
	"scrim/sheet"
	"scrim/value"
)

const top = api.MostFixed

// told is a number, and whether it is exact.
type told struct {
	n     int64
	exact bool
}

func answer(n int64, exact bool) told { return told{n, exact} }

func exactly(n int64) told { return told{n, true} }

// first is the style that has no declarations.
func first() cascade.Style {
	var s cascade.Style
	for prop := range value.Many {
		s[prop] = value.First(prop)
	}
	return s
}

// style is that of declarations.
func style(t *testing.T, css string) cascade.Style {
	t.Helper()
	return with(t, first(), css)
}

// with is a style that has declarations, too.
func with(t *testing.T, s cascade.Style, css string) cascade.Style {
	t.Helper()
	decls := sheet.Decls(css)
	if css != "" && len(decls) == 0 {
		t.Fatalf("%q declares nothing", css)
	}
	for _, d := range decls {
		s[d.Prop] = d.Value
	}
	return s
}

// P17.1

func TestOf(t *testing.T) {
	for css, want := range map[string]block.Sides{
		"":                                      {},
		"margin: 1px 2px 3px 4px":               {Margin: [4]int64{64, 128, 192, 256}},
		"border-width: 1px 2px 3px 4px":         {Border: [4]int64{64, 128, 192, 256}},
		"padding: 1px 2px 3px 4px":              {Padding: [4]int64{64, 128, 192, 256}},
		"margin-top: 1px":                       {Margin: [4]int64{64}},
		"margin-right: 1px":                     {Margin: [4]int64{0, 64}},
		"margin-bottom: 1px":                    {Margin: [4]int64{0, 0, 64}},
		"margin-left: 1px":                      {Margin: [4]int64{0, 0, 0, 64}},
		"border-top-width: 1px":                 {Border: [4]int64{64}},
		"border-right-width: 1px":               {Border: [4]int64{0, 64}},
		"border-bottom-width: 1px":              {Border: [4]int64{0, 0, 64}},
		"border-left-width: 1px":                {Border: [4]int64{0, 0, 0, 64}},
		"padding-top: 1px":                      {Padding: [4]int64{64}},
		"padding-right: 1px":                    {Padding: [4]int64{0, 64}},
		"padding-bottom: 1px":                   {Padding: [4]int64{0, 0, 64}},
		"padding-left: 1px":                     {Padding: [4]int64{0, 0, 0, 64}},
		"margin: -1px -2px; padding: 3px":       {Margin: [4]int64{-64, -128, -64, -128}, Padding: [4]int64{192, 192, 192, 192}},
		"margin: auto":                          {},
		"margin: auto 1px auto -1px":            {Margin: [4]int64{0, 64, 0, -64}},
		"width: 9px; height: 9px; left: 9px":    {},
		"font-size: 9px; order: 9; top: 9px":    {},
		"margin: 999999999px -999999999px":      {Margin: [4]int64{63999999936, -63999999936, 63999999936, -63999999936}},
		"margin: 0.5px; border-width: 0.25px 0": {Margin: [4]int64{32, 32, 32, 32}, Border: [4]int64{16, 0, 16, 0}},
	} {
		if got := block.Of(style(t, css)); got != want {
			t.Errorf("Of %q is %v, want %v", css, got, want)
		}
	}
	if got := block.Of(cascade.Style{}); got != (block.Sides{}) {
		t.Errorf("of the zero style: %v", got)
	}
	// Auto has no length, whatever its N; of a Length any N is told.
	s := first()
	s[value.MarginTop], s[value.MarginLeft] = api.Value{Kind: api.Auto, N: 9}, api.Value{Kind: api.Length, N: top + 9}
	if got := block.Of(s); got != (block.Sides{Margin: [4]int64{3: top + 9}}) {
		t.Errorf("of other numbers: %v", got)
	}
}

// sidesOf are sides whose numbers are those, one behind the other.
func sidesOf(l [12]int64) block.Sides {
	return block.Sides{Margin: [4]int64(l[:4]), Border: [4]int64(l[4:8]), Padding: [4]int64(l[8:])}
}

func TestAcrossAndDown(t *testing.T) {
	for i, c := range []struct {
		l            [12]int64
		across, down told
	}{
		{[12]int64{}, exactly(0), exactly(0)},
		{[12]int64{1, 20, 300, 4000, 50000, 600000, 7000000, 80000000, 9, 90, 900, 9000}, exactly(80613110), exactly(7052310 - 1100)},
		{[12]int64{-1, -20, -300, -4000}, exactly(-4020), exactly(-301)},
		{[12]int64{1, 2, -1, -2}, exactly(0), exactly(0)},
		// In their order: margins, borders, paddings; left ahead of right, top ahead of bottom.
		{[12]int64{top, -1, 1, top, 0, 0, -1, 0, 0, 1, 0, 0}, exactly(top), told{top - 1, false}},
		{[12]int64{1, 1, top, top, 0, 0, -1, 0, 0, -1, 0, 0}, told{top - 1, false}, told{top - 1, false}},
		{[12]int64{-9, 0, 9, 0, top, 0, 0, -9, 0, top, 0, 0}, exactly(top - 9), exactly(top)},
		{[12]int64{-9, top, 0, -9, top, 0, 0, 0, 9, 9, 0, 0}, exactly(top), exactly(top)},
		{[12]int64{0, 0, 0, 0, 0, 5, 0, top, 0, 0, 0, -top}, told{0, false}, exactly(0)},
		{[12]int64{0, 0, 0, 0, 0, -top, 0, 1 - top, 0, top, 0, 0}, told{0, false}, exactly(0)},
		{[12]int64{0, 0, 0, 0, 0, -top, 0, -1, 0, top, 0, 0}, told{0, false}, exactly(0)},
		{[12]int64{0, -top, 0, 1, 0, -1, 0, 0, 0, 0, 0, 5}, exactly(5 - top), exactly(0)},
		{[12]int64{top + 1, 0, 0, 0, 0, 0, 0, 0, 0, 0, 0, math.MinInt64}, told{-top, false}, told{top, false}},
		{[12]int64{0, 0, math.MaxInt64, math.MinInt64, 0, 0, 0, 0, -top, 0, 0, 0}, told{-top, false}, told{0, false}},
	} {
		x := sidesOf(c.l)
		if got := answer(block.Across(x)); got != c.across {
			t.Errorf("case %d: Across %v, want %v", i, got, c.across)
		}
		if got := answer(block.Down(x)); got != c.down {
			t.Errorf("case %d: Down %v, want %v", i, got, c.down)
		}
	}
}

func TestWidth(t *testing.T) {
	const far = 999999999 * 64
	for _, c := range []struct {
		css  string
		room int64
		want told
	}{
		// A Length, whatever the room, and whatever stands about it.
		{"width: 3px", 640, exactly(192)}, {"width: 0", 640, exactly(0)}, {"width: 3px; margin: 9px; padding: 99px", 0, exactly(192)}, {"width: 3px", -5, exactly(192)}, {"width: 3px", top + 1, exactly(192)}, {"width: 999999999px", 1, exactly(far)},
		// A percentage of the room, towards 0.
		{"width: 0%", 640, exactly(0)}, {"width: 50%", 640, exactly(320)}, {"width: 50%", 641, exactly(320)}, {"width: 100%", 641, exactly(641)}, {"width: 33.4%", 1000, exactly(333)}, {"width: 250%", 640, exactly(1600)}, {"width: 50%; margin: 9px; padding: 9px", 640, exactly(320)}, {"width: 50%", 0, exactly(0)}, {"width: 50%", -641, exactly(-320)}, {"width: 100%", top, exactly(top)}, {"width: 100%", top + 1, told{top, false}}, {"width: 101%", top, told{top, false}}, {"width: 200%", -top, told{-top, false}},
		// Above 6400 times 100 it counts as that.
		{"width: 9999%", 64, exactly(6399)}, {"width: 10000%", 64, exactly(6400)}, {"width: 10000.02%", 640000, exactly(64000000)}, {"width: 10001%", 64, exactly(6400)}, {"width: 999999999%", 64, exactly(6400)}, {"width: 10000%", top / 100, exactly(top / 100 * 100)}, {"width: 999999999%", top/100 + 1, told{top, false}},
		// Of auto what is over.
		{"", 640, exactly(640)}, {"", 0, exactly(0)}, {"", -1, exactly(0)}, {"", top, exactly(top)}, {"", top + 1, told{top, false}}, {"", math.MinInt64, told{0, false}}, {"", -top, exactly(0)},
		{"margin: 9px 1px 9px 2px; border-width: 9px 3px 9px 4px; padding: 9px 5px 9px 6px", 64 * 30, exactly(64 * 9)}, {"padding: 0 1px", 129, exactly(1)}, {"padding: 0 1px", 128, exactly(0)}, {"padding: 0 1px", 127, exactly(0)}, {"padding: 0 1px", 0, exactly(0)}, {"margin: 0 -1px", 100, exactly(228)}, {"margin: 0 -1px", -100, exactly(28)}, {"margin: 0 -1px", -200, exactly(0)}, {"margin: 0 auto", 100, exactly(100)}, {"margin: 0 auto 0 1px", 100, exactly(36)},
		{"margin-left: -1px", top, told{top, false}}, {"margin-left: -1px", top - 64, exactly(top)}, {"padding-left: 1px", -top, told{0, false}}, {"padding-left: 999999999px", 5, exactly(0)},
	} {
		if got := answer(block.Width(style(t, c.css), c.room)); got != c.want {
			t.Errorf("Width of %q in %d is %v, want %v", c.css, c.room, got, c.want)
		}
	}
}

// Sides that are told by no text: all across isn't exact.
func TestWidthWithFarSides(t *testing.T) {
	s := first()
	s[value.MarginLeft].N, s[value.MarginRight].N, s[value.PaddingRight].N = top, top, -top
	if got := answer(block.Width(s, 640)); got != (told{640, false}) {
		t.Errorf("Width is %v", got)
	}
	s[value.Width] = api.Value{Kind: api.Length, N: 5}
	if got := answer(block.Width(s, 640)); got != exactly(5) {
		t.Errorf("Width of a Length is %v", got)
	}
	s[value.Width] = api.Value{Kind: api.Percent, N: 3200}
	if got := answer(block.Width(s, 640)); got != exactly(320) {
		t.Errorf("Width of a percentage is %v", got)
	}
}

func TestHeight(t *testing.T) {
	for css, want := range map[string]int64{"": 7, "height: auto": 7, "height: 50%": 7, "height: 0%": 7, "height: 0": 0, "height: 2px": 128, "height: 2px; padding: 9px; margin: 9px": 128, "padding: 9px": 7, "width: 9px": 7, "height: 999999999px": 63999999936} {
		if got := block.Height(style(t, css), 7); got != want {
			t.Errorf("Height of %q is %d, want %d", css, got, want)
		}
	}
	for _, high := range []int64{0, 1, -1, top, -top, top + 1, math.MinInt64, math.MaxInt64} {
		if got := block.Height(first(), high); got != high {
			t.Errorf("Height of auto is %d, want %d", got, high)
		}
		if got := block.Height(style(t, "height: 1px"), high); got != 64 {
			t.Errorf("Height of a Length is %d", got)
		}
	}
}

// P17.2

func TestShift(t *testing.T) {
	for _, c := range []struct {
		css        string
		room, wide int64
		want       told
	}{
		// The left margin, unless that is auto.
		{"", 640, 100, exactly(0)}, {"margin: 1px", 640, 100, exactly(64)}, {"margin-left: -1px", 640, 100, exactly(-64)}, {"width: 1px; margin: 0 1px", 640, 100, exactly(64)}, {"width: 1px; margin-right: auto", 640, 100, exactly(0)}, {"width: 1px; margin: 0 auto 0 3px", 640, 100, exactly(192)}, {"width: 1px", 640, 100, exactly(0)}, {"margin-left: 2px; padding: 9px; border-width: 9px", 640, 100, exactly(128)},
		// Auto widths have no room that is over.
		{"margin: auto", 640, 100, exactly(0)}, {"margin-left: auto", 640, 100, exactly(0)}, {"width: auto; margin-left: auto", 640, 100, exactly(0)},
		// All that is over, or half of it.
		{"width: 1px; margin-left: auto", 640, 100, exactly(540)}, {"width: 1px; margin-left: auto", 641, 100, exactly(541)}, {"width: 1px; margin: 0 auto", 640, 100, exactly(270)}, {"width: 1px; margin: 0 auto", 641, 100, exactly(270)}, {"width: 1px; margin: 0 auto", 642, 100, exactly(271)}, {"width: 5%; margin: auto", 640, 100, exactly(270)}, {"width: 5%; margin-left: auto", 640, 100, exactly(540)}, {"width: 0; margin-left: auto", 640, 0, exactly(640)},
		{"width: 1px; margin: 0 1px 0 auto", 640, 100, exactly(476)}, {"width: 1px; margin: 0 -1px 0 auto", 640, 100, exactly(604)}, {"width: 1px; margin: 0 auto; padding: 9px 1px; border-width: 9px 2px", 640, 100, exactly(78)}, {"width: 1px; margin: 9px auto", 640, 100, exactly(270)}, {"width: 1px; margin-left: auto; padding: 9px 2px 9px 1px; border-width: 9px 0 9px 3px", 640, 100, exactly(540 - 6*64)},
		// A room that is one wider, as wide, and less wide.
		{"width: 1px; margin-left: auto", 101, 100, exactly(1)}, {"width: 1px; margin: 0 auto", 101, 100, exactly(0)}, {"width: 1px; margin: 0 auto", 102, 100, exactly(1)}, {"width: 1px; margin-left: auto", 100, 100, exactly(0)}, {"width: 1px; margin-left: auto", 99, 100, exactly(0)}, {"width: 1px; margin: 0 auto", 0, 100, exactly(0)}, {"width: 1px; margin: 0 auto", -5, 100, exactly(0)}, {"width: 1px; margin-left: auto", -5, -100, exactly(95)}, {"width: 1px; margin: 0 1px 0 auto", 164, 100, exactly(0)}, {"width: 1px; margin: 0 1px 0 auto", 165, 100, exactly(1)}, {"width: 1px; margin: 0 -1px 0 auto", 36, 100, exactly(0)}, {"width: 1px; margin: 0 -1px 0 auto", 37, 100, exactly(1)},
		// What isn't exact, where it is reckoned.
		{"width: 1px; margin-left: auto", top, 0, exactly(top)}, {"width: 1px; margin: 0 auto", top, 1, exactly(top/2 - 1)}, {"width: 1px; margin-left: auto", top, -1, told{top, false}}, {"width: 1px; margin: 0 auto", top, -9, told{top / 2, false}}, {"width: 1px; margin: 0 1px 0 auto", top, top, told{0, false}}, {"width: 1px; margin: 0 1px 0 auto", 5, top, told{0, false}}, {"width: 1px; margin-left: auto", 5, top + 1, told{0, false}}, {"width: 1px; margin-left: auto", 5, -top - 1, told{top, false}}, {"width: 1px; margin-left: auto", top + 1, 5, told{top - 5, false}}, {"width: 1px; margin-left: auto", math.MaxInt64, math.MinInt64, told{top, false}},
		// Where it isn't.
		{"margin-left: auto", top + 1, top + 1, exactly(0)}, {"width: 1px; margin: 0 1px", top + 1, top + 1, exactly(64)}, {"margin: 1px", math.MinInt64, math.MaxInt64, exactly(64)},
	} {
		if got := answer(block.Shift(style(t, c.css), c.room, c.wide)); got != c.want {
			t.Errorf("Shift of %q in %d, %d wide, is %v, want %v", c.css, c.room, c.wide, got, c.want)
		}
	}
	s := style(t, "width: 1px; margin-left: auto")
	s[value.BorderLeft].N, s[value.BorderRight].N, s[value.PaddingLeft].N = top, top, -top
	if got := answer(block.Shift(s, 640, 100)); got != (told{540, false}) {
		t.Errorf("Shift with far sides is %v", got)
	}
	s[value.MarginLeft] = api.Value{Kind: api.Length, N: 7}
	if got := answer(block.Shift(s, 640, 100)); got != exactly(7) {
		t.Errorf("Shift of a Length, with far sides, is %v", got)
	}
}

// P17.3

func TestMeet(t *testing.T) {
	for _, c := range []struct {
		a, b int64
		want told
	}{
		{5, 8, exactly(8)}, {5, 5, exactly(5)}, {0, 0, exactly(0)}, {0, 7, exactly(7)}, {5, -3, exactly(2)}, {3, -5, exactly(-2)}, {5, -5, exactly(0)}, {0, -3, exactly(-3)}, {1, -1, exactly(0)}, {-5, -3, exactly(-5)}, {-1, -1, exactly(-1)}, {-1, -9, exactly(-9)},
		{top, top, exactly(top)}, {top, 1, exactly(top)}, {-top, -top, exactly(-top)}, {top, -top, exactly(0)}, {top, -1, exactly(top - 1)}, {-top, 0, exactly(-top)}, {-top, 1, exactly(1 - top)},
		// Numbers that may not be: a sum counts them, the greater and the lesser one do not.
		{top + 1, -1, told{top - 1, false}}, {math.MaxInt64, math.MinInt64, told{0, false}}, {0, -top - 1, told{-top, false}}, {top + 1, 0, exactly(top + 1)}, {math.MaxInt64, top + 1, exactly(math.MaxInt64)}, {-1, math.MinInt64, exactly(math.MinInt64)},
	} {
		if got := answer(block.Meet(c.a, c.b)); got != c.want {
			t.Errorf("Meet(%d, %d) is %v, want %v", c.a, c.b, got, c.want)
		}
		if got := answer(block.Meet(c.b, c.a)); got != c.want {
			t.Errorf("Meet(%d, %d) is %v, want %v", c.b, c.a, got, c.want)
		}
	}
}

func item(top, high, bottom int64) block.Item {
	return block.Item{Top: top, High: high, Bottom: bottom}
}

func items(l ...block.Item) []block.Item { return l }

func TestStack(t *testing.T) {
	for i, c := range []struct {
		l     []block.Item
		at    []int64
		high  int64
		exact bool
	}{
		{nil, nil, 0, true}, {items(), nil, 0, true},
		{items(item(5, 10, 8)), []int64{5}, 23, true}, {items(item(0, 0, 0)), []int64{0}, 0, true}, {items(item(-5, 10, 8)), []int64{-5}, 13, true}, {items(item(-5, 10, -8)), []int64{-5}, 0, true}, {items(item(-5, 10, -5)), []int64{-5}, 0, true}, {items(item(-5, 10, -4)), []int64{-5}, 1, true}, {items(item(0, -7, 0)), []int64{0}, 0, true},
		{items(item(5, 10, 8), item(3, 4, 1)), []int64{5, 23}, 28, true}, {items(item(5, 10, 3), item(8, 4, 1)), []int64{5, 23}, 28, true}, {items(item(5, 10, 8), item(-3, 4, 1)), []int64{5, 20}, 25, true}, {items(item(5, 10, -8), item(3, 4, 1)), []int64{5, 10}, 15, true}, {items(item(5, 10, -8), item(-3, 4, 1)), []int64{5, 7}, 12, true}, {items(item(0, 10, 0), item(0, 4, 0), item(0, 5, 0)), []int64{0, 10, 14}, 19, true},
		{items(item(0, 10, -4), item(3, 4, 0), item(-2, 1, 0)), []int64{0, 9, 11}, 12, true}, {items(item(-9, -9, -9), item(-9, -9, -9)), []int64{-9, -27}, 0, true}, {items(item(0, 10, 0), item(-20, 4, 3)), []int64{0, -10}, 0, true}, {items(item(0, 30, 0), item(-20, 4, 3)), []int64{0, 10}, 17, true},
		// Margins meet across an item of no height.
		{items(item(5, 0, 5), item(5, 10, 0)), []int64{5, 10}, 20, true},
		// What isn't exact, each in its place.
		{items(item(top, 0, 0)), []int64{top}, top, true}, {items(item(top, 1, 0)), []int64{top}, top, false}, {items(item(top, 0, 1)), []int64{top}, top, false}, {items(item(top, 1, -1)), []int64{top}, top - 1, false}, {items(item(top+1, 0, 0)), []int64{top}, top, false}, {items(item(-top-1, top, 0)), []int64{-top}, 0, false}, {items(item(-top, -1, 5)), []int64{-top}, 0, false}, {items(item(-top, 0, -1)), []int64{-top}, 0, false}, {items(item(0, top+1, 0)), []int64{0}, top, false}, {items(item(0, 0, top+1)), []int64{0}, top, false}, {items(item(0, 0, math.MinInt64)), []int64{0}, 0, false},
		{items(item(0, top, 0), item(0, 1, 0)), []int64{0, top}, top, false}, {items(item(0, top, 1), item(0, 0, 0)), []int64{0, top}, top, false}, {items(item(0, 1, top), item(0, 0, 0)), []int64{0, top}, top, false}, {items(item(0, 0, top), item(top, 0, 0)), []int64{0, top}, top, true}, {items(item(0, 9, top+1), item(-1, 0, 0)), []int64{0, top}, top, false}, {items(item(0, 0, top+1), item(-5, 0, 0)), []int64{0, top - 5}, top - 5, false},
		// A Bottom that is met is no more asked by itself.
		{items(item(0, top, 5), item(-5, 0, 0)), []int64{0, top}, top, true}, {items(item(0, top, 5), item(-6, 1, 0)), []int64{0, top - 1}, top, true}, {items(item(0, top-1, top), item(-top, 1, 0)), []int64{0, top - 1}, top, true},
	} {
		kept := slices.Clone(c.l)
		at, high, exact := block.Stack(c.l)
		if !slices.Equal(at, c.at) || high != c.high || exact != c.exact {
			t.Errorf("case %d: %v, %d, %v, want %v, %d, %v", i, at, high, exact, c.at, c.high, c.exact)
		}
		if !slices.Equal(c.l, kept) {
			t.Errorf("case %d: items are now %v", i, c.l)
		}
	}
}
