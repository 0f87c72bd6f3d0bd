package cascade_test

import (
	"slices"
	"strings"
	"testing"

	"scrim/api"
	"scrim/cascade"
	"scrim/sheet"
	"scrim/tree"
	"scrim/value"
)

// read tells the document and the rules of two texts.
func read(t *testing.T, html, css string) ([]api.Node, []sheet.Rule) {
	t.Helper()
	l, e := tree.Read(html)
	rules, f := sheet.Read(css)
	if e != api.OK || f != api.OK {
		t.Fatalf("%q, %q: %d, %d", html, css, e, f)
	}
	return l, rules
}

// checkWinner holds a winner, as its text; "" is none.
func checkWinner(t *testing.T, l []api.Node, node, prop int, rules []sheet.Rule, seen []string, want string) {
	t.Helper()
	v, is := cascade.Winner(l, node, prop, rules, seen)
	if is != (want != "") || value.Print(prop, v) != want || !is && v != (api.Value{}) {
		t.Errorf("Winner(%d, %d, %q, %q) = %v, %v, want %q", node, prop, sheet.Print(rules), seen, v, is, want)
	}
}

// checkTexts holds one property of all styles, as texts.
func checkTexts(t *testing.T, what string, styles []cascade.Style, prop int, want ...string) {
	t.Helper()
	var got []string
	for _, s := range styles {
		got = append(got, value.Print(prop, s[prop]))
	}
	if !slices.Equal(got, want) {
		t.Errorf("%s: %s is %q, want %q", what, value.Name(prop), got, want)
	}
}

// P12.1: Winner

const family = `<div><p id="i" class="c d">x</p></div>` // 1 div, 2 p, 3 x

func TestWinner(t *testing.T) {
	for css, want := range map[string]string{
		"": "", "b {top: 1px}": "", "p {left: 1px}": "", "p {}": "", "p {top: 1px}": "1px", "* {top: 1px}": "1px", "div {top: 1px}": "", "root, x {top: 1px}": "",
		// Strength goes ahead of weight, and of place.
		"p {top: 1px !important; top: 2px}":                      "1px",
		"p {top: 2px; top: 1px !important}":                      "1px",
		"p {top: 1px !important} p {top: 2px}":                   "1px",
		"p {top: 1px !important} #i {top: 2px}":                  "1px",
		"#i {top: 2px} * {top: 1px !important}":                  "1px",
		"* {top: 1px !important} #i {top: 2px; left: 3px}":       "1px",
		"#i {top: 1px !important} * {top: 2px !important}":       "1px",
		"p {top: 1px !important} p {top: 2px !important}":        "2px",
		"p {top: 1px !important; top: 2px !important; top: 3px}": "2px",
		// Weight goes ahead of place.
		"#i {top: 1px} p {top: 2px}":               "1px",
		"p {top: 2px} #i {top: 1px}":               "1px",
		"#i {top: 1px} .c.d.c.d.c.d.c {top: 2px}":  "1px",
		".c {top: 1px} div > p {top: 2px}":         "1px",
		"p {top: 1px} * {top: 2px}":                "1px",
		"div p {top: 1px} p {top: 2px}":            "1px",
		".c.d {top: 1px} .c {top: 2px}":            "1px",
		"p.c {top: 1px} .c {top: 2px}":             "1px",
		"#i#i {top: 1px} p#i.c.d {top: 2px}":       "1px",
		"#i {top: 1px} p, div p, .c.d {top: 2px}":  "1px",
		".c {top: 1px} p {top: 2px} * {top: 3px}":  "1px",
		"* {top: 3px} p {top: 2px} .c {top: 1px}":  "1px",
		"* {top: 3px} .c {top: 1px} p {top: 2px}":  "1px",
		"* * {top: 1px} p {top: 2px} * {top: 3px}": "2px",
		// Of the same strength and weight, what stands later does.
		"p {top: 1px} p {top: 2px}":                      "2px",
		"p {top: 1px; top: 2px}":                         "2px",
		"p {top: 2px; left: 3px; top: 1px; left: 4px}":   "1px",
		"* {top: 1px} * * {top: 2px}":                    "2px",
		"* > * {top: 1px} * {top: 2px}":                  "2px",
		".c {top: 1px} .d {top: 2px}":                    "2px",
		".d {top: 1px} .c {top: 2px}":                    "2px",
		"div p {top: 1px} div > p {top: 2px}":            "2px",
		"p {top: 1px; top: 2px} p {top: 3px; left: 1px}": "3px",
		"p {top: 1px} p {left: 3px} b {top: 2px}":        "1px",
		// The heaviest selector counts, of those that are for the node.
		"p, #i {top: 1px} .c {top: 2px}":         "1px",
		"#i, p {top: 1px} .c {top: 2px}":         "1px",
		"p, #j {top: 1px} .c {top: 2px}":         "2px",
		"#j, p {top: 1px} .c {top: 2px}":         "2px",
		"p, b#j {top: 1px} p {top: 2px}":         "2px",
		"p, .c, #i {top: 1px} .c.d {top: 2px}":   "1px",
		".c, p, .c {top: 1px} .c {top: 2px}":     "2px",
		"#j, .x {top: 1px}":                      "",
		"#j, .x, p {top: 1px}":                   "1px",
		"div > #i, * {top: 1px} #i {top: 2px}":   "1px",
		"p > #i, * {top: 1px} #i {top: 2px}":     "2px",
		"*, *, * {top: 1px} *, * {top: 2px}":     "2px",
		".c, .d {top: 1px} .c {top: 2px}":        "2px",
		"p, p, p {top: 1px} p {top: 2px}":        "2px",
		"div {top: 1px !important} p {top: 2px}": "2px",
	} {
		l, rules := read(t, family, css)
		checkWinner(t, l, 2, value.Top, rules, nil, want)
		// Of none of its family, and of no node.
		for _, node := range []int{0, 3, 4, 5, -1, -2, 1 << 62, -1 << 62} {
			checkWinner(t, l, node, value.Top, rules, nil, "")
		}
		// A rule that is for no node, and one of other properties, change nothing.
		for _, other := range []string{"b {top: 9px !important}", "#j {top: 9px}", "p {left: 9px !important}", "#i {margin: 9px !important}", ":visited, p > p, a:link {top: 9px}"} {
			_, rules := read(t, "", other+css+other)
			checkWinner(t, l, 2, value.Top, rules, nil, want)
		}
		// A strong one behind all, for all, wins.
		_, rules = read(t, "", css+"* {top: 7px !important}")
		if !strings.Contains(css, "!important") {
			checkWinner(t, l, 2, value.Top, rules, nil, "7px")
			checkWinner(t, l, 1, value.Top, rules, nil, "7px")
		}
	}
}

// twoTexts are two values of a property, as texts; the first one isn't what it is at first.
func twoTexts(prop int) [2]string {
	switch prop {
	case value.Display:
		return [2]string{"block", "none"}
	case value.Width, value.Height:
		return [2]string{"50%", "1px"}
	case value.MarginTop, value.MarginRight, value.MarginBottom, value.MarginLeft:
		return [2]string{"auto", "-1px"}
	case value.Color, value.Background:
		return [2]string{"#00ff00", "#ff0000"}
	case value.TextAlign:
		return [2]string{"right", "center"}
	case value.Grow, value.Shrink, value.Order:
		return [2]string{"3", "0.5"}
	case value.Direction:
		return [2]string{"column", "row"}
	case value.Justify:
		return [2]string{"end", "center"}
	}
	return [2]string{"3px", "4px"}
}

func TestWinnerOfEachProperty(t *testing.T) {
	l, _ := read(t, family, "")
	for prop := 1; prop < value.Many; prop++ {
		name, texts := value.Name(prop), twoTexts(prop)
		_, rules := read(t, "", "p {"+name+": "+texts[0]+"} .c {"+name+": "+texts[1]+"}")
		for other := -1; other <= value.Many; other++ {
			want := ""
			if other == prop {
				want = texts[1]
			}
			checkWinner(t, l, 2, other, rules, nil, want)
			checkWinner(t, l, 1, other, rules, nil, "")
		}
		checkWinner(t, l, 2, prop, rules[:1], nil, texts[0])
	}
	for _, prop := range []int{0, -1, value.Many, value.Many + 1, 1 << 62, -1 << 62} {
		_, rules := read(t, "", "* {margin: 1px; display: none}")
		checkWinner(t, l, 2, prop, rules, nil, "")
		checkWinner(t, l, 2, prop, nil, nil, "")
	}
}

func TestWinnerOfLinks(t *testing.T) {
	l, rules := read(t, `<a href="h"><b></b></a>`, "a {top: 1px} a:link {top: 2px} a:visited {top: 3px} b {top: 4px} :link b {top: 5px} :visited > b {top: 6px}")
	for _, c := range []struct {
		seen []string
		a, b string
	}{{nil, "2px", "5px"}, {[]string{"x"}, "2px", "5px"}, {[]string{"h"}, "3px", "6px"}, {[]string{"x", "h"}, "3px", "6px"}} {
		checkWinner(t, l, 1, value.Top, rules, c.seen, c.a)
		checkWinner(t, l, 2, value.Top, rules, c.seen, c.b)
	}
}

// P12.1: Styles

func TestStylesAtFirst(t *testing.T) {
	l, _ := read(t, "x<p>y<b></b></p><img>", "")
	for what, styles := range map[string][]cascade.Style{"Styles": cascade.Styles(l, nil, nil), "Public": cascade.Public(l, nil), "Paint": cascade.Paint(l, nil, []string{"h"})} {
		if len(styles) != 6 {
			t.Fatalf("%s of 6 nodes: %d", what, len(styles))
		}
		for node, s := range styles {
			for prop, v := range s {
				if v != value.First(prop) {
					t.Errorf("%s: %d of %d is %v", what, prop, node, v)
				}
			}
		}
	}
}

func TestStylesOfNodes(t *testing.T) {
	// 0 root, 1 x, 2 div, 3 y, 4 p, 5 z, 6 b, 7 img, 8 p
	l, rules := read(t, "x<div>y<p>z<b></b></p><img></div><p></p>", `
		* {order: 1} div {color: red; width: 5px; font-size: 20px; text-align: center; display: block}
		p {background-color: blue; text-align: right; width: 50%} b {color: green; flex-shrink: 0} root {top: 1px; color: white} div p {left: 2px}`)
	styles := cascade.Styles(l, rules, nil)
	if len(styles) != 9 {
		t.Fatalf("%d styles", len(styles))
	}
	for prop, want := range map[int]string{
		value.Order:      "0 0 1 0 1 0 1 1 1",
		value.Color:      "#000000 #000000 #ff0000 #ff0000 #ff0000 #ff0000 #008000 #ff0000 #000000",
		value.FontSize:   "16px 16px 20px 20px 20px 20px 20px 20px 16px",
		value.TextAlign:  "left left center center right right right center right",
		value.Width:      "auto auto 5px auto 50% auto auto auto 50%",
		value.Display:    "inline inline block inline inline inline inline inline inline",
		value.Background: "#ffffff #ffffff #ffffff #ffffff #0000ff #ffffff #ffffff #ffffff #0000ff",
		value.Shrink:     "1 1 1 1 1 1 0 1 1",
		value.Left:       "0px 0px 0px 0px 2px 0px 0px 0px 0px",
		value.Top:        "0px 0px 0px 0px 0px 0px 0px 0px 0px",
		value.Height:     "auto auto auto auto auto auto auto auto auto",
	} {
		checkTexts(t, "Styles", styles, prop, strings.Fields(want)...)
	}
	for node, s := range styles {
		if s[0] != (api.Value{}) {
			t.Errorf("of %d, 0 is %v", node, s[0])
		}
	}
}

// Each property is passed on, or isn't, whoever tells it.
func TestWhatIsPassedOn(t *testing.T) {
	l, _ := read(t, "<p>x<b><i>y</i></b></p>", "") // 1 p, 2 x, 3 b, 4 i, 5 y
	for prop := 1; prop < value.Many; prop++ {
		name, text, first := value.Name(prop), twoTexts(prop)[0], value.Print(prop, value.First(prop))
		inB, inI := first, first
		if value.Passed(prop) {
			inB, inI = text, text
		}
		_, rules := read(t, "", "p {"+name+": "+text+"}")
		checkTexts(t, "Styles", cascade.Styles(l, rules, nil), prop, first, text, inB, inB, inI, inI)
		// Told as it is at first, it is that, whatever stands above.
		_, rules = read(t, "", "p {"+name+": "+text+"} i {"+name+": "+first+"}")
		checkTexts(t, "Styles", cascade.Styles(l, rules, nil), prop, first, text, inB, inB, first, first)
	}
}

// P12.1: Public, Paint

// Of each property, links' rules are told as if nothing was visited, but for two that are painted.
func TestWhatIsPublicAndPainted(t *testing.T) {
	l, _ := read(t, `<a href="h"></a><a href="k"></a><a></a>`, "")
	seen := []string{"h"}
	for prop := 1; prop < value.Many; prop++ {
		name, texts, first := value.Name(prop), twoTexts(prop), value.Print(prop, value.First(prop))
		_, rules := read(t, "", ":link {"+name+": "+texts[0]+"} :visited {"+name+": "+texts[1]+"}")
		checkTexts(t, "Public", cascade.Public(l, rules), prop, first, texts[0], texts[0], first)
		checkTexts(t, "Styles", cascade.Styles(l, rules, seen), prop, first, texts[1], texts[0], first)
		checkTexts(t, "Styles of nothing visited", cascade.Styles(l, rules, nil), prop, first, texts[0], texts[0], first)
		painted := texts[0]
		if prop == value.Color || prop == value.Background {
			painted = texts[1]
		}
		checkTexts(t, "Paint", cascade.Paint(l, rules, seen), prop, first, painted, texts[0], first)
		checkTexts(t, "Paint of nothing visited", cascade.Paint(l, rules, []string{"x"}), prop, first, texts[0], texts[0], first)
	}
}

// A color is passed on from a link that was visited, through texts and several levels; a background isn't.
func TestWhatIsPaintedInLinks(t *testing.T) {
	// 1 a h, 2 x, 3 b, 4 i, 5 y, 6 a k, 7 z, 8 p
	l, rules := read(t, `<a href="h">x<b><i>y</i></b></a><a href="k">z</a><p></p>`, "a:visited {color: red; background-color: blue; font-size: 9px; text-align: right} a:visited i {background-color: green; order: 1} p {color: white}")
	black, white := "#000000", "#ffffff"
	for _, c := range []struct {
		seen              []string
		color, background []string
	}{
		{nil, []string{black, black, black, black, black, black, black, black, white}, []string{white, white, white, white, white, white, white, white, white}},
		{[]string{"h"}, []string{black, "#ff0000", "#ff0000", "#ff0000", "#ff0000", "#ff0000", black, black, white}, []string{white, "#0000ff", white, white, "#008000", white, white, white, white}},
		{[]string{"k"}, []string{black, black, black, black, black, black, "#ff0000", "#ff0000", white}, []string{white, white, white, white, white, white, "#0000ff", white, white}},
		{[]string{"k", "h"}, []string{black, "#ff0000", "#ff0000", "#ff0000", "#ff0000", "#ff0000", "#ff0000", "#ff0000", white}, []string{white, "#0000ff", white, white, "#008000", white, "#0000ff", white, white}},
	} {
		painted := cascade.Paint(l, rules, c.seen)
		checkTexts(t, "Paint", painted, value.Color, c.color...)
		checkTexts(t, "Paint", painted, value.Background, c.background...)
		checkTexts(t, "Paint", painted, value.FontSize, slices.Repeat([]string{"16px"}, 9)...)
		checkTexts(t, "Paint", painted, value.TextAlign, slices.Repeat([]string{"left"}, 9)...)
		checkTexts(t, "Paint", painted, value.Order, slices.Repeat([]string{"0"}, 9)...)
		if !slices.Equal(cascade.Public(l, rules), cascade.Paint(l, rules, nil)) {
			t.Error("where nothing was visited, what is public is painted")
		}
	}
}

func TestAsManyAsMayBe(t *testing.T) {
	l, _ := read(t, strings.Repeat("<p></p>", api.MostNodes-1), "")
	var rules []sheet.Rule
	for range api.MostRules {
		_, one := read(t, "", "* {"+strings.Repeat("order: 1;", 59)+"order: 2}")
		rules = append(rules, one...)
	}
	styles := cascade.Styles(l, rules, nil)
	if len(styles) != api.MostNodes || styles[0][value.Order].N != 0 {
		t.Fatalf("%d styles", len(styles))
	}
	for node := 1; node < api.MostNodes; node++ {
		if styles[node][value.Order].N != 2*api.Unit {
			t.Errorf("of %d: %v", node, styles[node][value.Order])
		}
	}
	for _, none := range [][]cascade.Style{cascade.Styles(nil, rules, nil), cascade.Public(nil, rules), cascade.Paint(nil, rules, nil)} {
		if len(none) != 0 {
			t.Errorf("of no nodes: %v", none)
		}
	}
}
