package box_test

import (
	"slices"
	"strconv"
	"strings"
	"testing"

	"scrim/api"
	"scrim/box"
	"scrim/cascade"
	"scrim/sheet"
	"scrim/tree"
	"scrim/value"
)

// read tells the document of a text, and its styles by rules' text.
func read(t *testing.T, html, css string) ([]api.Node, []cascade.Style) {
	t.Helper()
	l, e := tree.Read(html)
	rules, f := sheet.Read(css)
	if e != api.OK || f != api.OK {
		t.Fatalf("%q, %q: %d, %d", html, css, e, f)
	}
	return l, cascade.Public(l, rules)
}

// build tells the boxes of nodes that have any.
func build(t *testing.T, l []api.Node, styles []cascade.Style) []box.Box {
	t.Helper()
	boxes, e := box.Build(l, styles)
	if e != api.OK {
		t.Fatalf("Build of %d nodes, %d styles: %d", len(l), len(styles), e)
	}
	return boxes
}

// told tells boxes as a text: of each its depth by dots, a letter of its kind, and its node.
func told(l []box.Box) string {
	var out []string
	depths := make([]int, len(l))
	for at, b := range l {
		if at > 0 {
			depths[at] = depths[b.Parent] + 1
		}
		out = append(out, strings.Repeat(".", depths[at])+"?BFAIT*"[b.Kind:b.Kind+1]+strconv.Itoa(b.Node))
	}
	return strings.Join(out, " ")
}

// standWell holds that boxes are in order, and that Parents and Kids tell the same.
func standWell(t *testing.T, what string, l []box.Box) {
	t.Helper()
	kids := make([][]int, len(l))
	for at, b := range l {
		if at == 0 && (b.Parent != -1 || b.Node != 0 || b.Kind != box.Block) {
			t.Errorf("%s: the first box is %+v", what, b)
		}
		if at == 0 {
			continue
		}
		if b.Parent < 0 || b.Parent >= at {
			t.Fatalf("%s: %d stands in %d", what, at, b.Parent)
		}
		kids[b.Parent] = append(kids[b.Parent], at)
		// Its parent is the one ahead, or one in which that stands.
		above := at - 1
		for above > b.Parent {
			above = l[above].Parent
		}
		if above != b.Parent {
			t.Errorf("%s: %d stands in %d, out of order", what, at, b.Parent)
		}
	}
	for at, b := range l {
		if !slices.Equal(b.Kids, kids[at]) {
			t.Errorf("%s: %d has kids %v, want %v", what, at, b.Kids, kids[at])
		}
	}
}

// check holds the boxes of a page.
func check(t *testing.T, html, css, want string) {
	t.Helper()
	l, styles := read(t, html, css)
	boxes := build(t, l, styles)
	standWell(t, html+" "+css, boxes)
	if got := told(boxes); got != want {
		t.Errorf("%q, %q: %s, want %s", html, css, got, want)
	}
}

// sorts are rules for tags of each sort.
const sorts = "b {display: block} f {display: flex} i {display: inline} n {display: none}"

// P14.1: Build

func TestBuildOfLines(t *testing.T) {
	for html, want := range map[string]string{
		"": "B0", "x": "B0 .T1", " ": "B0 .T1", " \n\t": "B0 .T1", "<i></i>": "B0 .I1", "<u></u>": "B0 .I1", "<img>": "B0 .*1", "<a href=\"h\"></a>": "B0 .I1",
		"x<i>y</i>": "B0 .T1 .I2 ..T3", "<i> </i> <i></i>": "B0 .I1 ..T2 .T3 .I4", "<i><i><i>x</i></i>y</i>": "B0 .I1 ..I2 ...I3 ....T4 ..T5", "x<img>y<img><img>": "B0 .T1 .*2 .T3 .*4 .*5", "<i>x<img> </i> ": "B0 .I1 ..T2 ..*3 ..T4 .T5",
		// In an Inline one all stand in lines.
		"<i><b>x</b></i>": "B0 .I1 ..I2 ...T3", "<i><f>x</f> </i>": "B0 .I1 ..I2 ...T3 ..T4", "<i>x<b>y<f> <b></b></f></b> z</i>": "B0 .I1 ..T2 ..I3 ...T4 ...I5 ....T6 ....I7 ..T8", "<i><b></b><b></b></i>": "B0 .I1 ..I2 ..I3", "<i><b><i>x</i><img></b></i>": "B0 .I1 ..I2 ...I3 ....T4 ...*5", "<i> <b> </b> </i>": "B0 .I1 ..T2 ..I3 ...T4 ..T5",
	} {
		check(t, html, sorts, want)
	}
}

func TestBuildOfBlocks(t *testing.T) {
	for html, want := range map[string]string{
		"<b></b>": "B0 .B1", "<f></f>": "B0 .F1", "<b>x</b>": "B0 .B1 ..T2", "<b></b><b></b><f></f>": "B0 .B1 .B2 .F3", "<b><b><b>x</b></b></b>": "B0 .B1 ..B2 ...B3 ....T4", "<b><i>x</i> </b>": "B0 .B1 ..I2 ...T3 ..T4",
		// Mixed ones: runs between are in boxes of their own.
		"x<b>y</b>": "B0 .A0 ..T1 .B2 ..T3", "<b>x</b>y": "B0 .B1 ..T2 .A0 ..T3", "x<b></b>y": "B0 .A0 ..T1 .B2 .A0 ..T3", "x<f></f>y": "B0 .A0 ..T1 .F2 .A0 ..T3", "<b></b>x<b></b>": "B0 .B1 .A0 ..T2 .B3",
		"x<i>y</i><img><b></b><i></i>z": "B0 .A0 ..T1 ..I2 ...T3 ..*4 .B5 .A0 ..I6 ..T7", "<b></b><i></i><b></b><img><b></b>": "B0 .B1 .A0 ..I2 .B3 .A0 ..*4 .B5",
		"<b>x<b></b></b>": "B0 .B1 ..A1 ...T2 ..B3", "<b><b></b>x</b>y": "B0 .B1 ..B2 ..A1 ...T3 .A0 ..T4", "<i>x<b>y</b></i><b></b>": "B0 .A0 ..I1 ...T2 ...I3 ....T4 .B5", "x<b>y<b>z</b></b>": "B0 .A0 ..T1 .B2 ..A2 ...T3 ..B4 ...T5",
		// Runs of blank texts alone are left out: ahead, between, behind.
		" <b></b>": "B0 .B2", "<b></b> ": "B0 .B1", " <b></b>\n<b></b>\t\r": "B0 .B2 .B4", "<b> <b></b> </b>": "B0 .B1 ..B3", " <b> </b> ": "B0 .B2 ..T3", "<b></b> <f></f> <b></b>": "B0 .B1 .F3 .B5",
		// Blank ones next to others are not.
		" <i></i><b></b>": "B0 .A0 ..T1 ..I2 .B3", "<b></b><i></i> ": "B0 .B1 .A0 ..I2 ..T3", " <img> <b></b> ": "B0 .A0 ..T1 ..*2 ..T3 .B4", "<b></b> <i> </i> <b></b>": "B0 .B1 .A0 ..T2 ..I3 ...T4 ..T5 .B6", "<i> </i><b></b>": "B0 .A0 ..I1 ...T2 .B3", "<i></i><b></b>": "B0 .A0 ..I1 .B2", "<b></b>\v": "B0 .B1 .A0 ..T2", "<b></b>\u00a0": "B0 .B1 .A0 ..T2", "<b></b> x ": "B0 .B1 .A0 ..T2", "x<b></b> <b></b>y": "B0 .A0 ..T1 .B2 .B4 .A0 ..T5",
	} {
		check(t, html, sorts, want)
	}
}

func TestBuildOfFlexes(t *testing.T) {
	for html, want := range map[string]string{
		"<f></f>": "B0 .F1", "<f>x</f>": "B0 .F1 ..A1 ...T2", "<f> </f>": "B0 .F1", "<f> \n</f>": "B0 .F1", "<f><img></f>": "B0 .F1 ..A1 ...*2", "<f><b></b></f>": "B0 .F1 ..B2", "<f><f></f></f>": "B0 .F1 ..F2", "<f><i></i></f>": "B0 .F1 ..B2", "<f><i>x</i></f>": "B0 .F1 ..B2 ...T3",
		"<f>x<img>y</f>": "B0 .F1 ..A1 ...T2 ...*3 ...T4", "<f> <img> </f>": "B0 .F1 ..A1 ...T2 ...*3 ...T4", "<f>x<b></b>y</f>": "B0 .F1 ..A1 ...T2 ..B3 ..A1 ...T4", "<f>x<i></i>y</f>": "B0 .F1 ..A1 ...T2 ..B3 ..A1 ...T4", "<f><i></i> <i></i></f>": "B0 .F1 ..B2 ..B4", "<f> <i></i>\t</f>": "B0 .F1 ..B3",
		"<f>x<i>y</i> <b></b><img> </f>": "B0 .F1 ..A1 ...T2 ..B3 ...T4 ..B6 ..A1 ...*7 ...T8", "<f><f>x</f><i>y</i></f>": "B0 .F1 ..F2 ...A2 ....T3 ..B4 ...T5", "<f><i>x<b>y</b></i></f>": "B0 .F1 ..B2 ...A2 ....T3 ...B4 ....T5", "<f><i><i>x</i></i></f>": "B0 .F1 ..B2 ...I3 ....T4", "<f><b>x<i></i></b></f>": "B0 .F1 ..B2 ...T3 ...I4",
		"<f>x</f>y": "B0 .F1 ..A1 ...T2 .A0 ..T3", "<i><f>x<i></i></f></i>": "B0 .I1 ..I2 ...T3 ...I4",
	} {
		check(t, html, sorts, want)
	}
}

func TestBuildOfWhatIsNotShown(t *testing.T) {
	for html, want := range map[string]string{
		"<n></n>": "B0", "<n>x</n>": "B0", "<n><b>x<i>y</i></b><img></n>": "B0", "x<n>y</n>": "B0 .T1", "<n><n></n></n><n></n>": "B0", "<b><n>x</n></b>": "B0 .B1", "<i>x<n><b></b></n></i>": "B0 .I1 ..T2", "<f>x<n></n>y</f>": "B0 .F1 ..A1 ...T2 ...T4", "<f><n><i></i></n></f>": "B0 .F1",
		// Runs go on across them.
		"x<n></n>y<b></b>": "B0 .A0 ..T1 ..T3 .B4", " <n></n> <b></b>": "B0 .B4", " <n>x</n> <b></b>y<n></n> ": "B0 .B5 .A0 ..T6 ..T8", "x<n></n> <b></b>": "B0 .A0 ..T1 ..T3 .B4", "<f> <n>x</n> </f>": "B0 .F1", "<b></b><n></n><b></b>": "B0 .B1 .B3",
		// What isn't shown stands in no blocks.
		"x<n><b></b></n>y": "B0 .T1 .T4", " <n></n> ": "B0 .T1 .T3",
	} {
		check(t, html, sorts, want)
	}
	check(t, "x<b>y</b>", "b {display: none}", "B0 .T1")
	check(t, "<b><i>a</i></b>", "b {display: none} i {display: block}", "B0")
}

func TestBuildOfImages(t *testing.T) {
	for _, display := range []string{"block", "flex", "inline"} {
		css := "img {display: " + display + "} b {display: block} f {display: flex}"
		check(t, "<img>", css, "B0 .*1")
		check(t, "x<img>", css, "B0 .T1 .*2")
		check(t, "<img><b></b>", css, "B0 .A0 ..*1 .B2")
		check(t, "<f><img></f>", css, "B0 .F1 ..A1 ...*2")
		check(t, "<u><img></u>", css, "B0 .I1 ..*2")
	}
	check(t, "<img>x<b></b>", "img {display: none} b {display: block}", "B0 .A0 ..T2 .B3")
	check(t, "<img>", "img {display: none}", "B0")
}

// withDisplay are styles whose Displays are these values.
func withDisplay(l ...api.Value) []cascade.Style {
	styles := make([]cascade.Style, len(l))
	for i, v := range l {
		styles[i][value.Display] = v
	}
	return styles
}

// A Display is told by its N alone; texts and the root don't hang on it.
func TestBuildByAnyDisplay(t *testing.T) {
	l, _ := read(t, "x<u>y</u>", "") // 1 x, 2 u, 3 y
	for _, kind := range []int{api.None, api.Auto, api.Length, api.Percent, api.Color, api.Word, api.Number, -1, 99} {
		for n, want := range map[int64]string{
			0: "B0 .A0 ..T1 .B2 ..T3", 1: "B0 .T1 .I2 ..T3", 2: "B0 .A0 ..T1 .F2 ..A2 ...T3", 3: "B0 .T1", 4: "B0 .T1 .I2 ..T3", 64: "B0 .T1 .I2 ..T3", -1: "B0 .T1 .I2 ..T3", 1 << 40: "B0 .T1 .I2 ..T3", 1<<32 + 3: "B0 .T1 .I2 ..T3", -1 << 62: "B0 .T1 .I2 ..T3",
		} {
			v := api.Value{Kind: kind, N: n}
			first := api.Value{Kind: api.Word, N: value.Inline}
			if got := told(build(t, l, withDisplay(first, first, v, first))); got != want {
				t.Errorf("of %v: %s, want %s", v, got, want)
			}
			// The root is a Block, and texts are shown, whatever theirs is.
			if got := told(build(t, l, withDisplay(v, v, first, v))); got != "B0 .T1 .I2 ..T3" {
				t.Errorf("of all but one %v: %s", v, got)
			}
		}
	}
	if got := told(build(t, l, make([]cascade.Style, 4))); got != "B0 .A0 ..T1 .B2 ..T3" {
		t.Errorf("of zero styles: %s", got)
	}
}

func TestBuildOfWrongOnes(t *testing.T) {
	l, styles := read(t, "x<u>y</u>", "")
	for _, c := range []struct {
		l      []api.Node
		styles []cascade.Style
	}{
		{nil, nil}, {[]api.Node{}, []cascade.Style{}}, {nil, styles}, {nil, styles[:1]}, {l, nil}, {l, styles[:3]}, {l, styles[:1]}, {l, append(slices.Clone(styles), styles[0])}, {l, make([]cascade.Style, 1000)},
	} {
		if boxes, e := box.Build(c.l, c.styles); len(boxes) != 0 || e != api.ErrArg {
			t.Errorf("Build of %d nodes, %d styles: %v, %d", len(c.l), len(c.styles), boxes, e)
		}
	}
}

func TestBuildOfMany(t *testing.T) {
	deep := strings.Repeat("<b>", api.MostDepth)
	check(t, deep, sorts, "B0 .B1 ..B2 ...B3 ....B4 .....B5 ......B6 .......B7 ........B8 .........B9 ..........B10 ...........B11 ............B12")
	check(t, strings.ReplaceAll(deep, "b", "f"), sorts, "B0 .F1 ..F2 ...F3 ....F4 .....F5 ......F6 .......F7 ........F8 .........F9 ..........F10 ...........F11 ............F12")
	want := "B0"
	for node := 1; node < api.MostNodes; node += 2 {
		want += " .A0 ..T" + strconv.Itoa(node) + " .B" + strconv.Itoa(node+1)
	}
	check(t, strings.Repeat("x<b></b>", api.MostNodes/2-1)+"x", sorts, strings.TrimSuffix(want, " .B"+strconv.Itoa(api.MostNodes)))
}

// P14.1: Lines

func TestLines(t *testing.T) {
	for _, c := range []struct {
		html string
		want []bool
	}{
		{"", []bool{false}}, {"x", []bool{true, false}}, {" ", []bool{true, false}}, {"<i>x</i>", []bool{true, false, false}}, {"<img>", []bool{true, false}}, {"<img><i></i>x", []bool{true, false, false, false}},
		{"<b></b>", []bool{false, false}}, {"<b>x</b>", []bool{false, true, false}}, {"x<b>y</b>", []bool{false, true, false, true, false}}, {"<b>x</b><i>y</i>", []bool{false, true, false, true, false, false}},
		{"<f></f>", []bool{false, false}}, {"<f>x</f>", []bool{false, false, true, false}}, {"<f><i>x</i></f>", []bool{false, false, true, false}}, {"<i><b>x</b></i>", []bool{true, false, false, false}}, {"<n>x</n>", []bool{false}},
	} {
		l, styles := read(t, c.html, sorts)
		boxes := build(t, l, styles)
		if len(boxes) != len(c.want) {
			t.Fatalf("%q: %s", c.html, told(boxes))
		}
		for at, want := range c.want {
			if box.Lines(boxes, at) != want {
				t.Errorf("Lines of %d of %s isn't %v", at, told(boxes), want)
			}
		}
		for _, at := range []int{-1, -2, -1 << 62, len(boxes), len(boxes) + 1, 1 << 62} {
			if box.Lines(boxes, at) {
				t.Errorf("Lines of %d of %s", at, told(boxes))
			}
		}
	}
	for _, at := range []int{-1, 0, 1} {
		if box.Lines(nil, at) {
			t.Errorf("Lines of %d of none", at)
		}
	}
}

// Boxes by hand: of each kind, with a kid, or two, of each kind.
func TestLinesOfEachKind(t *testing.T) {
	kinds := []int{box.Block, box.Flex, box.Inline, box.Text, box.Image}
	inLines := func(kind int) bool { return kind == box.Inline || kind == box.Text || kind == box.Image }
	for _, kind := range append(kinds, box.Anon) {
		has := kind == box.Block || kind == box.Anon
		if box.Lines([]box.Box{{Kind: kind, Parent: -1}}, 0) || box.Lines([]box.Box{{Kind: kind, Parent: -1, Kids: []int{}}}, 0) {
			t.Errorf("Lines of a box of kind %d without kids", kind)
		}
		for _, one := range kinds {
			l := []box.Box{{Kind: kind, Parent: -1, Kids: []int{1}}, {Kind: one}}
			if got := box.Lines(l, 0); got != (has && inLines(one)) {
				t.Errorf("Lines of kind %d with %d is %v", kind, one, got)
			}
			for _, two := range kinds {
				l := []box.Box{{Kind: kind, Parent: -1, Kids: []int{1, 2}}, {Kind: one}, {Kind: two}}
				if got := box.Lines(l, 0); got != (has && inLines(one) && inLines(two)) {
					t.Errorf("Lines of kind %d with %d, %d is %v", kind, one, two, got)
				}
			}
		}
	}
}
