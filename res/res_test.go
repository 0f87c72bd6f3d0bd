package res_test

import (
	"slices"
	"strings"
	"testing"

	"scrim/res"
)

const (
	mostSize    = 1 << 20
	mostAdvance = 1024
)

// image makes one that isn't open; open, one that is.
func image(src string, w, h int64) res.Image { return res.Image{Src: src, W: w, H: h} }
func open(src string, w, h int64) res.Image  { return res.Image{Src: src, W: w, H: h, Open: true} }

// of makes a table of a font, and images.
func of(font res.Font, images ...res.Image) res.Table { return res.Table{Images: images, Font: font} }

// many are images of unlike Srcs.
func many(n int) []res.Image {
	var l []res.Image
	for i := range n {
		l = append(l, image(strings.Repeat("x", i), 1, 2))
	}
	return l
}

func equal(a, b res.Table) bool { return slices.Equal(a.Images, b.Images) && a.Font == b.Font }

// P13.1

func TestMay(t *testing.T) {
	font := res.Font{Advance: 40}
	for i, c := range []struct {
		t   res.Table
		may bool
	}{
		{res.Table{}, true}, {of(font), true}, {res.Table{Images: []res.Image{}}, true}, {of(font, image("", 0, 0)), true},
		{of(font, many(1)...), true}, {of(font, many(19)...), true}, {of(font, many(20)...), true}, {of(font, many(21)...), false}, {of(font, many(1000)...), false},
		// No two of one Src, open or not.
		{of(font, image("u", 1, 2), image("v", 1, 2)), true}, {of(font, image("u", 1, 2), image("u", 1, 2)), false}, {of(font, image("u", 1, 2), open("u", 3, 4)), false}, {of(font, open("u", 1, 2), image("v", 1, 2), open("u", 1, 2)), false}, {of(font, image("", 1, 2), image("", 1, 2)), false},
		{of(font, image("u", 1, 2), image("U", 1, 2), image("u ", 1, 2), image("", 1, 2)), true}, {of(font, append(many(19), image("xxx", 1, 2))...), false}, {of(font, append(many(18), image("y", 1, 2), image("y", 1, 2))...), false},
		// Sizes.
		{of(font, image("u", 0, 0)), true}, {of(font, image("u", mostSize, mostSize)), true}, {of(font, open("u", mostSize, mostSize)), true}, {of(font, open("u", 0, 0)), true},
		{of(font, image("u", -1, 0)), false}, {of(font, image("u", 0, -1)), false}, {of(font, open("u", -1, 5)), false}, {of(font, open("u", 5, -1)), false},
		{of(font, image("u", mostSize+1, 0)), false}, {of(font, image("u", 0, mostSize+1)), false}, {of(font, open("u", mostSize+1, 1)), false}, {of(font, open("u", 1, mostSize+1)), false},
		{of(font, image("u", 1<<62, 0)), false}, {of(font, image("u", 0, -1<<62)), false},
		{of(font, image("t", 1, 2), image("u", -1, 0), image("v", 1, 2)), false}, {of(font, image("t", 1, 2), image("u", 1, 2), image("v", 0, mostSize+1)), false}, {of(font, image("t", -1, 2), image("u", 1, 2)), false},
		// Advances.
		{of(res.Font{}), true}, {of(res.Font{Open: true}), true}, {of(res.Font{Advance: 1}), true}, {of(res.Font{Advance: mostAdvance}), true}, {of(res.Font{Advance: mostAdvance, Open: true}), true},
		{of(res.Font{Advance: -1}), false}, {of(res.Font{Advance: -1, Open: true}), false}, {of(res.Font{Advance: mostAdvance + 1}), false}, {of(res.Font{Advance: mostAdvance + 1, Open: true}), false}, {of(res.Font{Advance: 1 << 62}, many(3)...), false},
	} {
		if got := res.May(c.t); got != c.may {
			t.Errorf("case %d: May(%v) = %v", i, c.t, got)
		}
	}
}

// check holds what is told of a Src, and what is so.
func check(t *testing.T, x res.Table, src string, w, h, trueW, trueH int64, is bool) {
	t.Helper()
	if gotW, gotH, got := res.Size(x, src); gotW != w || gotH != h || got != is {
		t.Errorf("Size(%v, %q) = %d, %d, %v, want %d, %d", x, src, gotW, gotH, got, w, h)
	}
	if gotW, gotH, got := res.True(x, src); gotW != trueW || gotH != trueH || got != is {
		t.Errorf("True(%v, %q) = %d, %d, %v, want %d, %d", x, src, gotW, gotH, got, trueW, trueH)
	}
}

func TestSizes(t *testing.T) {
	if res.Hold != 1024 || res.Fallback != 32 {
		t.Errorf("Hold %d, Fallback %d", res.Hold, res.Fallback)
	}
	x := of(res.Font{Advance: 9}, image("u", 10, 20), open("v", 3, 4), image("w", 0, 0), open("x", 0, 0), image("", 5, 6), open("Open", mostSize, 7))
	check(t, x, "u", 1024, 1024, 10, 20, true)
	check(t, x, "v", 3, 4, 3, 4, true)
	check(t, x, "w", 1024, 1024, 0, 0, true)
	check(t, x, "x", 0, 0, 0, 0, true)
	check(t, x, "", 1024, 1024, 5, 6, true)
	check(t, x, "Open", mostSize, 7, mostSize, 7, true)
	for _, src := range []string{"y", "U", "u ", " u", "uv", "open", "O"} {
		check(t, x, src, 0, 0, 0, 0, false)
	}
	for _, none := range []res.Table{{}, of(res.Font{Advance: 9, Open: true}), of(res.Font{}, open("u", 1, 2))} {
		check(t, none, "", 0, 0, 0, 0, false)
		check(t, none, "v", 0, 0, 0, 0, false)
	}
	// Of some of one Src, the first one counts, open or not.
	twice := of(res.Font{}, open("z", 8, 8), image("u", 1, 2), open("u", 3, 4), open("v", 5, 6), image("v", 7, 8), open("v", 9, 9))
	check(t, twice, "u", 1024, 1024, 1, 2, true)
	check(t, twice, "v", 5, 6, 5, 6, true)
}

func TestAdvance(t *testing.T) {
	for font, want := range map[res.Font]int64{
		{}: 32, {Advance: 40}: 32, {Advance: mostAdvance}: 32, {Advance: 32}: 32, {Open: true}: 0, {Advance: 40, Open: true}: 40, {Advance: 1, Open: true}: 1, {Advance: mostAdvance, Open: true}: 1024,
	} {
		for _, images := range [][]res.Image{nil, {open("u", 1, 2)}, {image("u", 1, 2)}} {
			if got := res.Advance(of(font, images...)); got != want {
				t.Errorf("Advance of %v is %d, want %d", font, got, want)
			}
		}
	}
}

// P13.2

func TestPublic(t *testing.T) {
	hidden, told := res.Font{Advance: 40}, res.Font{Advance: 40, Open: true}
	for _, c := range []struct{ t, want res.Table }{
		{res.Table{}, res.Table{}}, {of(hidden), res.Table{}}, {of(told), of(told)}, {of(res.Font{Open: true}), of(res.Font{Open: true})},
		{of(told, image("u", 1, 2)), of(told, image("u", 0, 0))}, {of(told, open("u", 1, 2)), of(told, open("u", 1, 2))}, {of(hidden, open("u", 1, 2)), of(res.Font{}, open("u", 1, 2))}, {of(hidden, image("", 1, 2)), of(res.Font{}, image("", 0, 0))},
		{of(told, image("u", 1, 0), open("v", 3, 4), image("w", 0, 5), open("x", 0, 6)), of(told, image("u", 0, 0), open("v", 3, 4), image("w", 0, 0), open("x", 0, 6))},
		{of(hidden, open("v", 3, 4), image("u", 1, 2)), of(res.Font{}, open("v", 3, 4), image("u", 0, 0))},
		{of(told, many(20)...), of(told, cleared(many(20))...)},
	} {
		kept := of(c.t.Font, slices.Clone(c.t.Images)...)
		got := res.Public(c.t)
		if !equal(got, c.want) || !equal(res.Public(got), got) {
			t.Errorf("Public(%v) = %v, want %v", c.t, got, c.want)
		}
		for i := range got.Images {
			got.Images[i] = image("spoilt", -1, -1)
		}
		if !equal(c.t, kept) {
			t.Errorf("what was handed in is now %v, was %v", c.t, kept)
		}
	}
}

// cleared are images whose sizes are 0.
func cleared(l []res.Image) []res.Image {
	for i := range l {
		l[i].W, l[i].H = 0, 0
	}
	return l
}

// turns change a table: is it alike then?
func turns() map[string]struct {
	alike bool
	turn  func(x *res.Table)
} {
	type turn = struct {
		alike bool
		turn  func(x *res.Table)
	}
	return map[string]turn{
		"nothing":                 {true, func(x *res.Table) {}},
		"a secret width":          {true, func(x *res.Table) { x.Images[0].W++ }},
		"a secret height":         {true, func(x *res.Table) { x.Images[0].H = 0 }},
		"all that is secret":      {true, func(x *res.Table) { x.Images[0], x.Images[2] = image("u", 9, 9), image("w", 0, 0) }},
		"a width":                 {false, func(x *res.Table) { x.Images[1].W++ }},
		"a height":                {false, func(x *res.Table) { x.Images[1].H = 0 }},
		"a last height":           {false, func(x *res.Table) { x.Images[3].H-- }},
		"opened":                  {false, func(x *res.Table) { x.Images[0].Open = true }},
		"opened, of no size":      {false, func(x *res.Table) { x.Images[2] = open("w", 0, 0) }},
		"shut":                    {false, func(x *res.Table) { x.Images[3].Open = false }},
		"another Src of a secret": {false, func(x *res.Table) { x.Images[0].Src = "U" }},
		"another Src":             {false, func(x *res.Table) { x.Images[1].Src = "" }},
		"one less ahead":          {false, func(x *res.Table) { x.Images = x.Images[1:] }},
		"one less behind":         {false, func(x *res.Table) { x.Images = x.Images[:3] }},
		"one more":                {false, func(x *res.Table) { x.Images = append(x.Images, image("y", 0, 0)) }},
		"one twice":               {false, func(x *res.Table) { x.Images = append(x.Images, x.Images[3]) }},
		"none":                    {false, func(x *res.Table) { x.Images = nil }},
		"another order":           {false, func(x *res.Table) { x.Images[0], x.Images[2] = x.Images[2], x.Images[0] }},
		"turned":                  {false, func(x *res.Table) { slices.Reverse(x.Images) }},
		"an advance":              {false, func(x *res.Table) { x.Font.Advance++ }},
		"a font that is shut":     {false, func(x *res.Table) { x.Font.Open = false }},
	}
}

func TestAlike(t *testing.T) {
	fresh := func() res.Table {
		return of(res.Font{Advance: 40, Open: true}, image("u", 10, 20), open("v", 3, 4), image("w", 5, 6), open("x", 7, 8))
	}
	for what, c := range turns() {
		a, b := fresh(), fresh()
		c.turn(&b)
		if res.Alike(a, b) != c.alike || res.Alike(b, a) != c.alike {
			t.Errorf("%s: is it alike?", what)
		}
		if !res.Alike(b, b) || !res.Alike(b, res.Public(b)) || !res.Alike(res.Public(b), b) {
			t.Errorf("%s: it isn't alike to itself", what)
		}
		if !equal(a, fresh()) {
			t.Errorf("%s: asked, it is %v", what, a)
		}
	}
	// Of fonts alone, and of none.
	for _, c := range []struct {
		a, b  res.Font
		alike bool
	}{
		{res.Font{}, res.Font{Advance: 7}, true}, {res.Font{Advance: 1024}, res.Font{Advance: 7}, true}, {res.Font{Open: true}, res.Font{}, false}, {res.Font{Open: true}, res.Font{Advance: 7}, false}, {res.Font{Advance: 7, Open: true}, res.Font{Advance: 7}, false}, {res.Font{Advance: 7, Open: true}, res.Font{Advance: 8, Open: true}, false}, {res.Font{Advance: 7, Open: true}, res.Font{Advance: 7, Open: true}, true},
	} {
		if res.Alike(of(c.a), of(c.b)) != c.alike || res.Alike(of(c.b), of(c.a)) != c.alike {
			t.Errorf("%v, %v: are they alike?", c.a, c.b)
		}
	}
	if !res.Alike(res.Table{}, res.Table{Images: []res.Image{}}) || res.Alike(res.Table{}, of(res.Font{}, image("", 0, 0))) || res.Alike(of(res.Font{}, image("", 0, 0)), res.Table{}) {
		t.Error("an empty list and none are one")
	}
}
