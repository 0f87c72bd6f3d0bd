package measure_test

import (
	"slices"
	"strings"
	"testing"

	"scrim/api"
	"scrim/box"
	"scrim/cascade"
	"scrim/measure"
	"scrim/res"
	"scrim/sheet"
	"scrim/tree"
	"scrim/value"
)

const top = api.MostFixed

// scene tells the scene of two texts, and of a table.
func scene(t *testing.T, html, css string, table res.Table) measure.Scene {
	t.Helper()
	l, e := tree.Read(html)
	rules, f := sheet.Read(css)
	if e != api.OK || f != api.OK || !res.May(table) {
		t.Fatalf("%q, %q, %v: %d, %d", html, css, table, e, f)
	}
	styles := cascade.Public(l, rules)
	boxes, e := box.Build(l, styles)
	if e != api.OK {
		t.Fatalf("%q, %q: %d", html, css, e)
	}
	return measure.Scene{Doc: l, Boxes: boxes, Styles: styles, Table: table}
}

// shut is a table of an image and a font that aren't Open; open, of such as are.
func shut() res.Table {
	return res.Table{Images: []res.Image{{Src: "u", W: 640, H: 320}, {Src: "v", W: 7, H: 9}}, Font: res.Font{Advance: 64}}
}

func open() res.Table {
	return res.Table{Images: []res.Image{{Src: "u", W: 640, H: 320, Open: true}, {Src: "v", W: 7, H: 9, Open: true}}, Font: res.Font{Advance: 64, Open: true}}
}

// word is a word's piece with nothing ahead of it; behind, one with a gap; picture, an image's with nothing ahead; other, one where a break may be.
func word(at int, text string, w, h int64) measure.Piece {
	return measure.Piece{Box: at, W: w, H: h, Text: text}
}

func behind(gap int64, p measure.Piece) measure.Piece {
	p.Gap, p.Break = gap, true
	return p
}

func picture(at int, w, h int64) measure.Piece { return measure.Piece{Box: at, W: w, H: h} }

func other(p measure.Piece) measure.Piece { return behind(0, p) }

// check holds the pieces of a box, all exact.
func check(t *testing.T, s measure.Scene, at int, want ...measure.Piece) {
	t.Helper()
	if got, is := measure.Pieces(s, at); !slices.Equal(got, want) || !is {
		t.Errorf("Pieces of %d of %+v:\n%+v, %v, want\n%+v", at, s, got, is, want)
	}
}

// P15.1

func TestPiecesOfTexts(t *testing.T) {
	for html, want := range map[string][]measure.Piece{
		"": nil, " ": nil, " \t\r\n ": nil, "<i></i>": nil, "<i> </i> ": nil,
		"a": {word(1, "a", 512, 1024)}, "ab": {word(1, "ab", 1024, 1024)}, "ab c": {word(1, "ab", 1024, 1024), behind(512, word(1, "c", 512, 1024))},
		// Gaps at either end count for nothing, and many blanks are one gap.
		" a": {word(1, "a", 512, 1024)}, "a ": {word(1, "a", 512, 1024)}, "\n a\t b \r\n ": {word(1, "a", 512, 1024), behind(512, word(1, "b", 512, 1024))}, "a\tb\nc\rd": {word(1, "a", 512, 1024), behind(512, word(1, "b", 512, 1024)), behind(512, word(1, "c", 512, 1024)), behind(512, word(1, "d", 512, 1024))},
		// Bytes count, whatever they are.
		"\u00e4": {word(1, "\u00e4", 1024, 1024)}, "a\u00a0b\vc\f": {word(1, "a\u00a0b\vc\f", 7*512, 1024)}, "\xff\xfe \x00": {word(1, "\xff\xfe", 1024, 1024), behind(512, word(1, "\x00", 512, 1024))}, "&lt;&amp;": {word(1, "<&", 1024, 1024)}, "&nbsp;": {word(1, "&nbsp;", 6*512, 1024)}, "a-b,c.d/": {word(1, "a-b,c.d/", 8*512, 1024)},
		// Words that stand side by side have no gap, and no break, whatever boxes they are in.
		"a<i>b</i>c": {word(1, "a", 512, 1024), word(3, "b", 512, 1024), word(4, "c", 512, 1024)}, "<i>a</i><i></i><i><u>b</u></i>": {word(2, "a", 512, 1024), word(6, "b", 512, 1024)},
		"a <i>b</i>": {word(1, "a", 512, 1024), behind(512, word(3, "b", 512, 1024))}, "a<i> b</i>": {word(1, "a", 512, 1024), behind(512, word(3, "b", 512, 1024))}, "a<i> </i>b": {word(1, "a", 512, 1024), behind(512, word(4, "b", 512, 1024))}, "a<i><u> </u></i><i></i>b": {word(1, "a", 512, 1024), behind(512, word(6, "b", 512, 1024))},
		"<i> </i>a": {word(3, "a", 512, 1024)}, "a<i> </i>": {word(1, "a", 512, 1024)}, " <i> a</i>": {word(3, "a", 512, 1024)}, "<i> </i><i> </i>": nil,
	} {
		check(t, scene(t, html, "", shut()), 0, want...)
		// Twice as wide by a font that may be told.
		var wide []measure.Piece
		for _, p := range want {
			p.W, p.Gap = 4*p.W, 4*p.Gap
			wide = append(wide, p)
		}
		check(t, scene(t, html, "", res.Table{Font: res.Font{Advance: 128, Open: true}}), 0, wide...)
	}
}

// A gap is as wide as a letter of the last box in which one of its blanks is.
func TestGapsOfUnlikeBoxes(t *testing.T) {
	const css = "b {font-size: 8px} i {font-size: 4px} u {font-size: 0}"
	a, c := word(1, "a", 512, 1024), func(at int) measure.Piece { return word(at, "c", 512, 1024) }
	for html, want := range map[string][]measure.Piece{
		"a<b>c</b>": {a, word(3, "c", 256, 512)}, "a <b>c</b>": {a, behind(512, word(3, "c", 256, 512))}, "a<b> c</b>": {a, behind(256, word(3, "c", 256, 512))}, "a <b> c</b>": {a, behind(256, word(3, "c", 256, 512))},
		"a <b> </b>c": {a, behind(256, c(4))}, "a<b> </b>c": {a, behind(256, c(4))}, "a <b> </b> c": {a, behind(512, c(4))}, "a<b> </b> c": {a, behind(512, c(4))}, "a<b> </b><i> </i>c": {a, behind(128, c(6))}, "a<i> </i><b> </b>c": {a, behind(256, c(6))}, "a <b></b>c": {a, behind(512, c(3))},
		"a<b> <i> </i></b>c": {a, behind(128, c(6))}, "a<b><i> </i> </b>c": {a, behind(256, c(6))}, "a <b> </b><img>": {a, behind(256, picture(4, 0, 0))}, "<b>c </b>a": {word(2, "c", 256, 512), behind(256, word(3, "a", 512, 1024))},
		// A gap of no width is one.
		"a<u> </u>c": {a, behind(0, c(4))}, "a <u> </u>c": {a, behind(0, c(4))}, "<u>c a</u>": {word(2, "c", 0, 0), behind(0, word(2, "a", 0, 0))}, "<u>c</u><u>a</u>": {word(2, "c", 0, 0), word(4, "a", 0, 0)},
	} {
		check(t, scene(t, html, css, shut()), 0, want...)
	}
}

func TestPiecesOfImages(t *testing.T) {
	for html, want := range map[string][2][]measure.Piece{
		`<img src="u">`:         {{picture(1, 1024, 1024)}, {picture(1, 640, 320)}},
		`<img src="v" id="u">`:  {{picture(1, 1024, 1024)}, {picture(1, 7, 9)}},
		`<img>`:                 {{picture(1, 0, 0)}, {picture(1, 0, 0)}},
		`<img src="">`:          {{picture(1, 0, 0)}, {picture(1, 0, 0)}},
		`<img src="w">`:         {{picture(1, 0, 0)}, {picture(1, 0, 0)}},
		`<img src="U">`:         {{picture(1, 0, 0)}, {picture(1, 0, 0)}},
		`<img id="u" href="u">`: {{picture(1, 0, 0)}, {picture(1, 0, 0)}},
		`<i src="u">a</i>`:      {{word(2, "a", 512, 1024)}, {word(2, "a", 1024, 1024)}},
		// A break may be ahead of each, and behind it.
		`<img><img src="u">`:    {{picture(1, 0, 0), other(picture(2, 1024, 1024))}, {picture(1, 0, 0), other(picture(2, 640, 320))}},
		`a<img>b`:               {{word(1, "a", 512, 1024), other(picture(2, 0, 0)), other(word(3, "b", 512, 1024))}, {word(1, "a", 1024, 1024), other(picture(2, 0, 0)), other(word(3, "b", 1024, 1024))}},
		`a <img> b`:             {{word(1, "a", 512, 1024), behind(512, picture(2, 0, 0)), behind(512, word(3, "b", 512, 1024))}, {word(1, "a", 1024, 1024), behind(1024, picture(2, 0, 0)), behind(1024, word(3, "b", 1024, 1024))}},
		` <img> `:               {{picture(2, 0, 0)}, {picture(2, 0, 0)}},
		`<img><i>b</i>c`:        {{picture(1, 0, 0), other(word(3, "b", 512, 1024)), word(4, "c", 512, 1024)}, {picture(1, 0, 0), other(word(3, "b", 1024, 1024)), word(4, "c", 1024, 1024)}},
		`a<i>b</i><i><img></i>`: {{word(1, "a", 512, 1024), word(3, "b", 512, 1024), other(picture(5, 0, 0))}, {word(1, "a", 1024, 1024), word(3, "b", 1024, 1024), other(picture(5, 0, 0))}},
		`<img> <img>`:           {{picture(1, 0, 0), behind(512, picture(3, 0, 0))}, {picture(1, 0, 0), behind(1024, picture(3, 0, 0))}},
	} {
		check(t, scene(t, html, "", shut()), 0, want[0]...)
		check(t, scene(t, html, "", open()), 0, want[1]...)
	}
}

func TestSizesOfImages(t *testing.T) {
	for css, want := range map[string][4]int64{ // of an image that is Open, and of one that there isn't
		"": {640, 320, 0, 0}, "width: auto; height: auto": {640, 320, 0, 0}, "width: 5px": {320, 320, 320, 0}, "height: 7px": {640, 448, 0, 448}, "width: 1px; height: 2.5px": {64, 160, 64, 160}, "width: 0": {0, 320, 0, 0}, "height: 0": {640, 0, 0, 0},
		"width: 50%": {640, 320, 0, 0}, "height: 100%": {640, 320, 0, 0}, "width: 50%; height: 1px": {640, 64, 0, 64}, "width: 1px; height: 0%": {64, 320, 64, 0},
		// What else is told of it counts for nothing.
		"font-size: 3px; margin: 5px; padding: 5px; border-width: 1px; display: block": {640, 320, 0, 0}, "width: 999999999px; height: 999999999.984375px": {999999999 * 64, 999999999*64 + 63, 999999999 * 64, 999999999*64 + 63},
	} {
		s := scene(t, `<img src="u"><img>`, "img {"+css+"}", open())
		check(t, s, 0, picture(1, want[0], want[1]), other(picture(2, want[2], want[3])))
		// Of one that isn't Open, the same sizes that aren't told are Hold.
		held := want
		if held[0] == 640 {
			held[0] = res.Hold
		}
		if held[1] == 320 {
			held[1] = res.Hold
		}
		s.Table = shut()
		check(t, s, 0, picture(1, held[0], held[1]), other(picture(2, want[2], want[3])))
	}
}

// A box has its own pieces, and those of all that stand in it, whatever kinds of boxes these are.
func TestPiecesOfEachBox(t *testing.T) {
	// root: 0; Anon 1: a 2, Inline 3: b 4, img 5; Block 6: c 7; Flex 8: Anon 9: d 10; Block 11: e 12; Anon 13: Inline 14
	s := scene(t, `a <i>b<img></i><b>c</b><f>d<i>e</i></f> <i></i>`, "b {display: block} f {display: flex}", shut())
	letter := func(at int, text string) measure.Piece { return word(at, text, 512, 1024) }
	if len(s.Boxes) != 16 {
		t.Fatalf("%d boxes", len(s.Boxes))
	}
	for at, want := range map[int][]measure.Piece{
		0: {letter(2, "a"), behind(512, letter(4, "b")), other(picture(5, 0, 0)), other(letter(7, "c")), letter(10, "d"), letter(12, "e")},
		1: {letter(2, "a"), behind(512, letter(4, "b")), other(picture(5, 0, 0))},
		2: {letter(2, "a")}, 3: {letter(4, "b"), other(picture(5, 0, 0))}, 4: {letter(4, "b")}, 5: {picture(5, 0, 0)}, 6: {letter(7, "c")}, 7: {letter(7, "c")},
		8: {letter(10, "d"), letter(12, "e")}, 9: {letter(10, "d")}, 10: {letter(10, "d")}, 11: {letter(12, "e")}, 12: {letter(12, "e")}, 13: nil, 14: nil, 15: nil,
	} {
		check(t, s, at, want...)
	}
	for _, at := range []int{-1, -2, -1 << 62, 16, 17, 1 << 62} {
		check(t, s, at)
	}
	for _, at := range []int{-1, 0, 1} {
		check(t, measure.Scene{}, at)
	}
	// What stands ahead of a box is nothing to it.
	s = scene(t, "a <i>b</i>", "", shut())
	check(t, s, 2, letter(3, "b"))
	check(t, s, 3, letter(3, "b"))
	check(t, scene(t, "<img><i>b</i>", "", shut()), 2, letter(3, "b"))
	check(t, scene(t, "<i> b </i>c", "", shut()), 1, letter(2, "b"))
}

func TestWhatIsNotShownHasNoPieces(t *testing.T) {
	a, b := word(1, "a", 512, 1024), word(2, "b", 512, 1024)
	check(t, scene(t, "a<n> </n>b", "n {display: none}", shut()), 0, a, b)
	check(t, scene(t, "a<n><img>x</n>b", "n {display: none}", shut()), 0, a, b)
	check(t, scene(t, "a <n>x</n> b", "n {display: none}", shut()), 0, a, behind(512, b))
}

// Letters are rounded towards 0 each, and words are so many of them.
func TestWidthsThatAreRounded(t *testing.T) {
	for _, c := range []struct {
		css          string
		advance      int64
		letter, high int64
	}{
		{"16px", 0, 0, 1024}, {"16px", 1, 16, 1024}, {"16px", 33, 528, 1024}, {"15.5px", 32, 496, 992}, {"1px", 63, 63, 64}, {"0.5px", 33, 16, 32}, {"0.015625px", 63, 0, 1}, {"0.015625px", 64, 1, 1}, {"0.046875px", 32, 1, 3}, {"0", 1024, 0, 0}, {"3px", 1024, 3072, 192}, {"1.984375px", 65, 128, 127},
	} {
		table := res.Table{Font: res.Font{Advance: c.advance, Open: true}}
		check(t, scene(t, "<p>abc d</p>", "p {font-size: "+c.css+"}", table), 0,
			word(2, "abc", 3*c.letter, c.high), behind(c.letter, word(2, "d", c.letter, c.high)))
	}
}

func TestNumbersThatAreNotExact(t *testing.T) {
	table := res.Table{Font: res.Font{Advance: 1024, Open: true}}
	// A letter of it is 1023999998976 units wide: one is less than may be, and two are more.
	const css, letter, high = "p {font-size: 999999999px}", 999999999 * 64 * 16, 999999999 * 64
	for _, c := range []struct {
		html  string
		exact bool
		want  []measure.Piece
	}{
		{"<p>a</p>", true, []measure.Piece{word(2, "a", letter, high)}},
		{"<p>a b</p>", true, []measure.Piece{word(2, "a", letter, high), behind(letter, word(2, "b", letter, high))}},
		{"<p>ab</p>", false, []measure.Piece{word(2, "ab", top, high)}},
		{"<p>ab</p>c", false, []measure.Piece{word(2, "ab", top, high), word(3, "c", 16384, 1024)}},
		{"c<p>ab</p>", false, []measure.Piece{word(1, "c", 16384, 1024), word(3, "ab", top, high)}},
		{"<p>a abc a</p>", false, []measure.Piece{word(2, "a", letter, high), behind(letter, word(2, "abc", top, high)), behind(letter, word(2, "a", letter, high))}},
		{"c<p> </p>c", true, []measure.Piece{word(1, "c", 16384, 1024), behind(letter, word(4, "c", 16384, 1024))}},
		{"<p>   </p>", true, nil},
	} {
		s := scene(t, c.html, css, table)
		if got, is := measure.Pieces(s, 0); !slices.Equal(got, c.want) || is != c.exact {
			t.Errorf("Pieces of %q: %+v, %v, want %+v, %v", c.html, got, is, c.want, c.exact)
		}
	}
	// Each box tells of its own.
	s := scene(t, "<i>c</i><p>ab</p>", css, table)
	check(t, s, 1, word(2, "c", 16384, 1024))
	if got, is := measure.Pieces(s, 3); len(got) != 1 || is {
		t.Errorf("%+v, %v", got, is)
	}
	check(t, scene(t, "<p>"+strings.Repeat("a ", 1000)+"</p>", css, table), 1, func() []measure.Piece {
		all := slices.Repeat([]measure.Piece{behind(letter, word(2, "a", letter, high))}, 1000)
		all[0] = word(2, "a", letter, high)
		return all
	}()...)
}

// P15.2

func TestMinAndMax(t *testing.T) {
	type piece = measure.Piece
	for i, c := range []struct {
		l        []piece
		min, max int64
	}{
		{nil, 0, 0}, {[]piece{}, 0, 0}, {[]piece{{}}, 0, 0}, {[]piece{{W: 5}}, 5, 5}, {[]piece{{W: 5, H: 9, Text: "x", Box: 7}}, 5, 5},
		// The first one's gap is of Max alone, and so is that of each behind a break.
		{[]piece{{W: 5, Gap: 3}}, 5, 8}, {[]piece{{W: 5, Gap: 3, Break: true}}, 5, 8}, {[]piece{{Gap: 3}}, 0, 3}, {[]piece{{W: 5, Gap: 3}, {W: 7, Gap: 2, Break: true}}, 7, 17},
		{[]piece{{W: 5}, {W: 7}}, 12, 12}, {[]piece{{W: 5}, {W: 7, Gap: 2}}, 14, 14}, {[]piece{{W: 5}, {W: 7, Break: true}}, 7, 12}, {[]piece{{W: 7}, {W: 5, Break: true}}, 7, 12}, {[]piece{{W: 5}, {W: 7, Gap: 2, Break: true}}, 7, 14},
		{[]piece{{W: 5, Break: true, Gap: 3}, {W: 7, Gap: 2}, {W: 4, Gap: 1, Break: true}}, 14, 22}, {[]piece{{W: 1}, {W: 2, Break: true}, {W: 3}, {W: 4, Break: true}}, 5, 10}, {[]piece{{W: 1}, {W: 2, Break: true}, {W: 3, Gap: 9}, {W: 4, Gap: 8}, {W: 13, Gap: 7, Break: true}}, 26, 47},
		{[]piece{{W: 4}, {W: 4, Break: true}, {W: 4, Break: true}}, 4, 12}, {[]piece{{W: 3}, {W: 3}, {W: 7, Break: true}, {W: 4, Break: true}, {W: 4}}, 8, 21},
		// Below 0.
		{[]piece{{W: -5}}, 0, -5}, {[]piece{{W: -5}, {W: -6, Break: true}}, 0, -11}, {[]piece{{W: -5}, {W: 6}}, 1, 1}, {[]piece{{W: -5}, {W: 6, Break: true}}, 6, 1}, {[]piece{{W: 5}, {W: 6, Gap: -20}, {W: 3, Gap: -20, Break: true}}, 3, -26}, {[]piece{{W: 5, Gap: -20}}, 5, -15}, {[]piece{{W: 5}, {W: 6, Gap: -20}}, 0, -9},
		{[]piece{{W: top}}, top, top}, {[]piece{{W: -top}}, 0, -top}, {[]piece{{W: top}, {W: -1}}, top - 1, top - 1}, {[]piece{{Gap: -1, W: top}, {W: 1, Gap: -5}}, top - 4, top - 5},
	} {
		if n, is := measure.Min(c.l); n != c.min || !is {
			t.Errorf("case %d: Min is %d, %v, want %d", i, n, is, c.min)
		}
		if n, is := measure.Max(c.l); n != c.max || !is {
			t.Errorf("case %d: Max is %d, %v, want %d", i, n, is, c.max)
		}
	}
}

func TestMinAndMaxThatAreNotExact(t *testing.T) {
	type piece = measure.Piece
	for i, c := range []struct {
		l               []piece
		min, max        int64
		minExact, maxEx bool
	}{
		{[]piece{{W: top + 1}}, top, top, false, false}, {[]piece{{W: top, Gap: 1}}, top, top, true, false}, {[]piece{{W: 1, Gap: top + 1}}, 1, top, true, false},
		{[]piece{{W: top}, {W: 1}}, top, top, false, false}, {[]piece{{W: top}, {W: 1, Break: true}}, top, top, true, false}, {[]piece{{W: top}, {W: 1, Gap: -1}}, top, top, true, true},
		// Piece by piece, each gap ahead of its piece's width.
		{[]piece{{W: top}, {W: -1, Gap: 1}}, top - 1, top - 1, false, false}, {[]piece{{W: top}, {W: 1}, {W: -9}}, top - 9, top - 9, false, false}, {[]piece{{W: top, Gap: 5}, {W: -9, Break: true}}, top, top - 9, true, false}, {[]piece{{W: top}, {W: 5, Gap: -5}}, top, top, true, true}, {[]piece{{W: top, Gap: -5}, {W: 5}}, top, top, false, true}, {[]piece{{W: -5, Gap: top}, {W: 5}}, 0, top, true, true}, {[]piece{{W: 5, Gap: top}, {W: -5}}, 0, top - 5, true, false},
		// A row that is too wide is so, whichever it is.
		{[]piece{{W: 3}, {W: top, Break: true}, {W: 1}, {W: 4, Break: true}}, top, top, false, false}, {[]piece{{W: top}, {W: top}, {W: 3, Break: true}}, top, top, false, false}, {[]piece{{W: 3}, {W: 4, Break: true}, {W: top, Gap: 1}}, top, top, false, false},
	} {
		if n, is := measure.Min(c.l); n != c.min || is != c.minExact {
			t.Errorf("case %d: Min is %d, %v, want %d, %v", i, n, is, c.min, c.minExact)
		}
		if n, is := measure.Max(c.l); n != c.max || is != c.maxEx {
			t.Errorf("case %d: Max is %d, %v, want %d, %v", i, n, is, c.max, c.maxEx)
		}
	}
}

func TestMaxThatIsTooFarBelow(t *testing.T) {
	for _, l := range [][]measure.Piece{{{W: -top - 1}}, {{W: -top}, {W: -1}}, {{W: -top}, {Gap: -1, Break: true}}, {{Gap: -top - 1}}} {
		if n, is := measure.Max(l); n != -top || is {
			t.Errorf("Max of %+v is %d, %v", l, n, is)
		}
	}
}

func TestMinAndMaxOfScenes(t *testing.T) {
	for html, want := range map[string][2]int64{
		"": {0, 0}, "ab c": {1024, 2048}, "a<i>b</i>c d": {1536, 2560}, "abc <img src=\"u\">d": {1536, 512*5 + 1024}, "<img><img src=\"u\">": {1024, 1024}, " a ": {512, 512},
	} {
		p, _ := measure.Pieces(scene(t, html, "", shut()), 0)
		least, one := measure.Min(p)
		most, two := measure.Max(p)
		if least != want[0] || most != want[1] || !one || !two {
			t.Errorf("%q: Min %d, %v, Max %d, %v", html, least, one, most, two)
		}
	}
}

// A text's style hangs on its parent's; a Piece's height is its own box's.
func TestPiecesByStylesOfNodes(t *testing.T) {
	s := scene(t, "a<b>c</b>", "b {font-size: 8px}", shut())
	s.Styles[3][value.FontSize].N = 64
	check(t, s, 0, word(1, "a", 512, 1024), word(3, "c", 32, 64))
}
