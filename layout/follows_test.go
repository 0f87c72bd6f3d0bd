package layout_test

import (
	"math/rand"
	"slices"
	"strings"
	"testing"

	"scrim/api"
	"scrim/block"
	"scrim/box"
	"scrim/cascade"
	"scrim/flex"
	"scrim/layout"
	"scrim/line"
	"scrim/measure"
	"scrim/res"
	"scrim/tree"
	"scrim/value"
)

// model lays a scene as the chapter's words tell, and asks each number again where it is named.
type model struct {
	s      measure.Scene
	styles map[int]cascade.Style
	isCut  bool
	rects  []api.Rect
	frags  map[int][]layout.Frag
}

func modelOf(s measure.Scene) *model {
	return &model{s: s, styles: map[int]cascade.Style{}, rects: make([]api.Rect, len(s.Boxes)), frags: map[int][]layout.Frag{}}
}

// stand is where a kid's border begins in a content, and how wide its own content is.
type stand struct {
	kid        int
	x, y, wide int64
}

func (m *model) note(n int64, exact bool) int64 {
	m.isCut = m.isCut || !exact
	return n
}

// cut cuts what is beyond the most.
func (m *model) cut(n int64) int64 {
	m.isCut = m.isCut || n > top || n < -top
	return min(max(n, -top), top)
}

func (m *model) sum(l ...int64) int64 {
	var all int64
	for _, n := range l {
		all = m.cut(all + m.cut(n))
	}
	return all
}

func (m *model) box(at int) box.Box { return m.s.Boxes[at] }

func (m *model) style(at int) cascade.Style {
	s, is := m.styles[at]
	if is {
		return s
	}
	own := m.s.Styles[m.box(at).Node]
	if s = own; m.box(at).Kind == box.Anon {
		for prop := range value.Many {
			s[prop] = value.First(prop)
		}
		s[value.Color], s[value.FontSize], s[value.TextAlign] = own[value.Color], own[value.FontSize], own[value.TextAlign]
	}
	m.styles[at] = s
	return s
}

// length tells a property's N, but 0 of auto.
func (m *model) length(at, prop int) int64 {
	if v := m.style(at)[prop]; v.Kind == api.Length {
		return v.N
	}
	return 0
}

func (m *model) across(at int) int64 {
	return m.sum(m.length(at, value.MarginLeft), m.length(at, value.MarginRight), m.length(at, value.BorderLeft), m.length(at, value.BorderRight), m.length(at, value.PaddingLeft), m.length(at, value.PaddingRight))
}

func (m *model) pieces(at int) []measure.Piece {
	l, exact := measure.Pieces(m.s, at)
	m.note(0, exact)
	return l
}

func (m *model) isFlex(at int, direction int64) bool {
	return m.box(at).Kind == box.Flex && m.style(at)[value.Direction].N == direction
}

func (m *model) wish(at int) int64 {
	if box.Lines(m.s.Boxes, at) {
		return m.note(measure.Max(m.pieces(at)))
	}
	var sum, most int64
	for _, kid := range m.box(at).Kids {
		inner := m.length(kid, value.Width)
		if m.style(kid)[value.Width].Kind != api.Length {
			inner = m.wish(kid)
		}
		outer := m.sum(inner, m.across(kid))
		most = max(most, outer)
		if m.isFlex(at, value.Row) {
			sum = m.sum(sum, outer)
		}
	}
	if m.isFlex(at, value.Row) {
		return sum
	}
	return most
}

// border tells how wide and high a border is whose content is so wide.
func (m *model) border(at int, wide int64) (int64, int64) {
	high, _ := m.content(at, wide)
	if v := m.style(at)[value.Height]; v.Kind == api.Length {
		high = v.N
	}
	w := m.sum(wide, m.length(at, value.BorderLeft), m.length(at, value.BorderRight), m.length(at, value.PaddingLeft), m.length(at, value.PaddingRight))
	return w, m.sum(high, m.length(at, value.BorderTop), m.length(at, value.BorderBottom), m.length(at, value.PaddingTop), m.length(at, value.PaddingBottom))
}

// outerHigh tells how high a kid is with its margins.
func (m *model) outerHigh(at int, wide int64) int64 {
	_, high := m.border(at, wide)
	return m.sum(m.length(at, value.MarginTop), high, m.length(at, value.MarginBottom))
}

// content tells how high a content is, and where kids stand in it.
func (m *model) content(at int, wide int64) (int64, []stand) {
	switch {
	case box.Lines(m.s.Boxes, at):
		_, high, exact := line.Fill(m.pieces(at), wide, m.style(at)[value.TextAlign].N)
		return m.note(high, exact), nil
	case m.isFlex(at, value.Row):
		return m.row(at, wide)
	case m.isFlex(at, value.Column):
		return m.column(at, wide)
	}
	var items []block.Item
	stands := m.acrossAsInABlock(m.box(at).Kids, wide)
	for _, k := range stands {
		_, high := m.border(k.kid, k.wide)
		items = append(items, block.Item{Top: m.length(k.kid, value.MarginTop), High: high, Bottom: m.length(k.kid, value.MarginBottom)})
	}
	downs, high, exact := block.Stack(items)
	for i := range stands {
		stands[i].y = downs[i]
	}
	return m.note(high, exact), stands
}

func (m *model) acrossAsInABlock(kids []int, room int64) []stand {
	var stands []stand
	for _, kid := range kids {
		wide := m.note(block.Width(m.style(kid), room))
		stands = append(stands, stand{kid: kid, x: m.note(block.Shift(m.style(kid), room, wide)), wide: wide})
	}
	return stands
}

// ordered tells kids by their Orders.
func (m *model) ordered(at int) []int {
	kids := slices.Clone(m.box(at).Kids)
	slices.SortStableFunc(kids, func(a, b int) int {
		one, two := m.style(a)[value.Order].N, m.style(b)[value.Order].N
		switch {
		case one < two:
			return -1
		case one > two:
			return 1
		}
		return 0
	})
	return kids
}

func (m *model) row(at int, wide int64) (int64, []stand) {
	var items []flex.Item
	for _, kid := range m.ordered(at) {
		s := m.style(kid)
		base := int64(0)
		if s[value.Width].Kind == api.Auto {
			base = m.wish(kid)
		} else {
			base = m.note(block.Width(s, wide))
		}
		items = append(items, flex.Item{Base: base, Extra: m.across(kid), Grow: s[value.Grow].N, Shrink: s[value.Shrink].N})
	}
	sizes, exact := flex.Share(items, wide)
	m.note(0, exact)
	var long []int64
	for i, x := range items {
		long = append(long, m.sum(sizes[i], x.Extra))
	}
	begins, exact := flex.Justify(long, wide, m.style(at)[value.Justify].N)
	m.note(0, exact)
	var stands []stand
	var high int64
	for i, kid := range m.ordered(at) {
		stands = append(stands, stand{kid: kid, x: m.sum(begins[i], m.length(kid, value.MarginLeft)), y: m.length(kid, value.MarginTop), wide: sizes[i]})
		high = max(high, m.outerHigh(kid, sizes[i]))
	}
	return high, stands
}

func (m *model) column(at int, wide int64) (int64, []stand) {
	stands := m.acrossAsInABlock(m.ordered(at), wide)
	var long []int64
	for _, k := range stands {
		long = append(long, m.outerHigh(k.kid, k.wide))
	}
	all := m.sum(long...)
	room := all
	if v := m.style(at)[value.Height]; v.Kind == api.Length {
		room = v.N
	}
	begins, exact := flex.Justify(long, room, m.style(at)[value.Justify].N)
	m.note(0, exact)
	for i, k := range stands {
		stands[i].y = m.sum(begins[i], m.length(k.kid, value.MarginTop))
	}
	return max(all, 0), stands
}

// put lays a box whose border begins at x, y, and whose content is so wide.
func (m *model) put(at int, x, y, wide int64) {
	w, h := m.border(at, wide)
	m.rects[at] = api.Rect{X: x, Y: y, W: w, H: h}
	x = m.sum(x, m.length(at, value.BorderLeft), m.length(at, value.PaddingLeft))
	y = m.sum(y, m.length(at, value.BorderTop), m.length(at, value.PaddingTop))
	_, stands := m.content(at, wide)
	for _, k := range stands {
		m.put(k.kid, m.sum(m.sum(x, k.x), m.length(k.kid, value.Left)), m.sum(m.sum(y, k.y), m.length(k.kid, value.Top)), k.wide)
	}
	if !box.Lines(m.s.Boxes, at) {
		return
	}
	pieces := m.pieces(at)
	places, _, _ := line.Fill(pieces, wide, m.style(at)[value.TextAlign].N)
	for _, p := range places {
		f := layout.Frag{Box: pieces[p.Piece].Box, Text: pieces[p.Piece].Text, Rect: p.Rect}
		f.Rect.X, f.Rect.Y = m.sum(x, f.Rect.X), m.sum(y, f.Rect.Y)
		m.frags[at] = append(m.frags[at], f)
	}
}

// stretch makes a place greater, so that it has another one, too; the places of boxes that are greatest end no farther than may be.
func (m *model) stretch(at int, f api.Rect, isFirst bool) {
	r := &m.rects[at]
	if isFirst {
		*r = f
		m.sum(f.X, f.W)
		m.sum(f.Y, f.H)
		return
	}
	right, bottom := max(r.X+r.W, m.sum(f.X, f.W)), max(r.Y+r.H, m.sum(f.Y, f.H))
	r.X, r.Y = min(r.X, f.X), min(r.Y, f.Y)
	r.W, r.H = m.sum(right, -r.X), m.sum(bottom, -r.Y)
}

// byWords tells what Lay does, and whether all is exact.
func byWords(s measure.Scene, room int64) (layout.Result, bool) {
	m := modelOf(s)
	m.put(0, 0, 0, m.note(block.Width(m.style(0), room)))
	out := layout.Result{Rects: m.rects}
	seen := map[int]bool{}
	for at := range s.Boxes {
		for _, f := range m.frags[at] {
			out.Frags = append(out.Frags, f)
			for up := f.Box; up != at; up = m.box(up).Parent {
				m.stretch(up, f.Rect, !seen[up])
				seen[up] = true
			}
		}
	}
	return out, !m.isCut
}

// someDoc is a document of words, images and elements.
func someDoc(some *rand.Rand) []api.Node {
	parts := []string{"<b>", "<b>", "<b>", "<i>", "</b>", "</b>", "</i>", "</b>", "a", "bb c", " ", `<img src="u">`, `<img src="v">`, "<b>", "<b></b>", "<b>x</b>"}
	for {
		var s strings.Builder
		for range some.Intn(30) {
			s.WriteString(parts[some.Intn(len(parts))])
		}
		if l, e := tree.Read(s.String()); e == api.OK {
			return l
		}
	}
}

// someLength tells a length: near 0 most times.
func someLength(some *rand.Rand, least int64) int64 {
	if some.Intn(3) > 0 {
		return 0
	}
	return max(int64(some.Intn(700)-200), least)
}

// someStyle is one of each sort of value.
func someStyle(some *rand.Rand) cascade.Style {
	var s cascade.Style
	for prop := range value.Many {
		s[prop] = value.First(prop)
	}
	word := func(l ...int64) api.Value { return api.Value{Kind: api.Word, N: l[some.Intn(len(l))]} }
	s[value.Display] = word(value.Block, value.Block, value.Flex, value.Flex, value.Inline)
	for prop := value.MarginTop; prop <= value.BorderLeft; prop++ {
		s[prop].N = someLength(some, []int64{-200, 0}[min(prop/value.PaddingTop, 1)])
		if prop <= value.MarginLeft && some.Intn(4) == 0 {
			s[prop] = api.Value{Kind: api.Auto}
		}
	}
	for _, prop := range []int{value.Width, value.Height} {
		switch some.Intn(4) {
		case 0:
			s[prop] = api.Value{Kind: api.Length, N: int64(some.Intn(3000))}
		case 1:
			s[prop] = api.Value{Kind: api.Percent, N: int64(some.Intn(7000))}
		}
	}
	s[value.FontSize].N = []int64{1024, 1024, 0, 100, 2048}[some.Intn(5)]
	s[value.TextAlign], s[value.Direction], s[value.Justify] = word(0, 0, 1, 2), word(0, 1), word(0, 1, 2, 3)
	s[value.Grow].N, s[value.Shrink].N = []int64{0, 0, 32, 64, 128}[some.Intn(5)], []int64{64, 64, 0, 32, 640}[some.Intn(5)]
	s[value.Order].N = []int64{0, 0, 64, -64, 1}[some.Intn(5)]
	s[value.Left].N, s[value.Top].N = someLength(some, -200), someLength(some, -200)
	return s
}

// someScene is one whose styles are of each sort. One number, or two, may be far; the greatest ones are told by no text.
func someScene(t *testing.T, some *rand.Rand, isFar bool) measure.Scene {
	t.Helper()
	l := someDoc(some)
	var styles []cascade.Style
	for range l {
		styles = append(styles, someStyle(some))
	}
	for range some.Intn(3) {
		if !isFar {
			break
		}
		s := &styles[some.Intn(len(l))]
		props := []int{value.Width, value.Height, value.MarginTop, value.MarginRight, value.MarginBottom, value.MarginLeft, value.PaddingTop, value.PaddingRight, value.PaddingBottom, value.PaddingLeft, value.BorderTop, value.BorderRight, value.BorderBottom, value.BorderLeft, value.Left, value.Top, value.FontSize}
		n := []int64{top, top - 100, top - 1000, 1 << 36}[some.Intn(4)]
		prop := props[some.Intn(len(props))]
		if (prop >= value.MarginTop && prop <= value.MarginLeft || prop >= value.Left) && some.Intn(2) == 0 {
			n = -n
		}
		s[prop] = api.Value{Kind: api.Length, N: n}
	}
	return sceneOf(t, l, styles)
}

func someRoom(some *rand.Rand, isFar bool) int64 {
	if isFar && some.Intn(3) == 0 {
		return top - int64(some.Intn(2000))*int64(some.Intn(2))
	}
	return int64(some.Intn(9000))
}

func equal(a, b layout.Result) bool {
	return slices.Equal(a.Rects, b.Rects) && slices.Equal(a.Frags, b.Frags)
}

func TestManyScenes(t *testing.T) {
	some := rand.New(rand.NewSource(19))
	exact, kinds := map[bool]int{}, map[int]int{}
	for round := range 10000 {
		isFar := round%2 == 0
		s, room := someScene(t, some, isFar), someRoom(some, isFar)
		want, isExact := byWords(s, room)
		got, e := layout.Lay(s, room)
		if !isExact {
			want = layout.Result{}
		}
		if !equal(got, want) || (e == api.OK) != isExact || e != api.OK && e != api.ErrOver {
			t.Fatalf("Lay of %+v in %d:\n%+v, %d, want\n%+v, %v", s, room, got, e, want, isExact)
		}
		exact[isExact]++
		holdStyles(t, s)
		holdWords(t, s, got, isExact)
		for _, b := range s.Boxes {
			kinds[b.Kind]++
		}
	}
	if exact[true] < 5000 || exact[false] < 1000 {
		t.Errorf("%d were exact, %d not", exact[true], exact[false])
	}
	for kind := box.Block; kind <= box.Image; kind++ {
		if kinds[kind] < 2000 {
			t.Errorf("no more than %d of kind %d", kinds[kind], kind)
		}
	}
}

// holdStyles holds the styles and wishes of all boxes.
func holdStyles(t *testing.T, s measure.Scene) {
	t.Helper()
	m := modelOf(s)
	for at, b := range s.Boxes {
		m.isCut = false
		if got := layout.Style(s, at); got != m.style(at) {
			t.Fatalf("the style of %d of %+v is %v", at, s, got)
		}
		var want int64
		if b.Kind == box.Block || b.Kind == box.Flex || b.Kind == box.Anon {
			want = m.wish(at)
		}
		if got, exact := layout.Wish(s, at); got != want || exact == m.isCut {
			t.Fatalf("the wish of %d of %+v is %d, %v, want %d", at, s, got, exact, want)
		}
	}
}

// P19.3

// holdWords holds that each word is a fragment, once, in its order, and so is each image.
func holdWords(t *testing.T, s measure.Scene, r layout.Result, isExact bool) {
	t.Helper()
	var got, want []string
	for _, b := range s.Boxes {
		switch {
		case !isExact:
		case b.Kind == box.Text:
			want = append(want, strings.FieldsFunc(s.Doc[b.Node].Text, func(c rune) bool { return strings.ContainsRune(" \t\n\r", c) })...)
		case b.Kind == box.Image:
			want = append(want, "")
		}
	}
	for _, f := range r.Frags {
		got = append(got, f.Text)
	}
	if !slices.Equal(got, want) {
		t.Fatalf("words of %+v are %q, want %q", s, got, want)
	}
}

// Nothing hangs on what is secret of the table.
func TestLayTellsNothingSecret(t *testing.T) {
	some := rand.New(rand.NewSource(20))
	for range 1500 {
		s, room := someScene(t, some, false), someRoom(some, false)
		s.Table.Font.Open = some.Intn(2) == 0
		other := s
		other.Table = res.Table{Images: slices.Clone(s.Table.Images), Font: s.Table.Font}
		other.Table.Images[1].W, other.Table.Images[1].H = int64(some.Intn(1<<20)), int64(some.Intn(1<<20))
		if !s.Table.Font.Open {
			other.Table.Font.Advance = int64(some.Intn(1025))
		}
		one, e := layout.Lay(s, room)
		two, f := layout.Lay(other, room)
		if !equal(one, two) || e != f {
			t.Fatalf("by other secrets %+v is %+v, was %+v", s, two, one)
		}
		for at := range s.Boxes {
			n, is := layout.Wish(s, at)
			if got, was := layout.Wish(other, at); got != n || was != is {
				t.Fatalf("by other secrets the wish of %d of %+v is %d, was %d", at, s, got, n)
			}
		}
	}
}

// kidsOfBlocks tells the boxes that stand in a Block, or in the root, and are no lines.
func kidsOfBlocks(s measure.Scene) []int {
	var l []int
	for at, b := range s.Boxes {
		if at > 0 && s.Boxes[b.Parent].Kind == box.Block && b.Kind <= box.Anon {
			l = append(l, at)
		}
	}
	return l
}

// contentOf tells where a content begins, and how wide it is.
func contentOf(s measure.Scene, r layout.Result, at int) (int64, int64) {
	x := block.Of(layout.Style(s, at))
	return r.Rects[at].X + x.Border[3] + x.Padding[3], r.Rects[at].W - x.Border[1] - x.Border[3] - x.Padding[1] - x.Padding[3]
}

// A block with auto width fills its room.
func TestBlocksFillTheirRoom(t *testing.T) {
	some := rand.New(rand.NewSource(21))
	fills := 0
	for range 3000 {
		s := someScene(t, some, false)
		r, _ := layout.Lay(s, someRoom(some, false))
		for _, at := range kidsOfBlocks(s) {
			style := layout.Style(s, at)
			x, room := contentOf(s, r, s.Boxes[at].Parent)
			sides := block.Of(style)
			across, _ := block.Across(sides)
			if style[value.Width].Kind != api.Auto || across > room {
				continue
			}
			fills++
			place := r.Rects[at]
			if place.X-style[value.Left].N != x+sides.Margin[3] || place.W+sides.Margin[1]+sides.Margin[3] != room {
				t.Fatalf("%d of %+v is %v, in %d from %d", at, s, place, room, x)
			}
		}
	}
	if fills < 3000 {
		t.Errorf("no more than %d fill their room", fills)
	}
}

// What stands in a Block stands one below the other.
func TestBlocksStandOneBelowTheOther(t *testing.T) {
	some := rand.New(rand.NewSource(22))
	below := 0
	for range 3000 {
		s := someScene(t, some, false)
		for node := range s.Styles {
			for prop := value.MarginTop; prop <= value.MarginLeft; prop++ {
				s.Styles[node][prop].N = max(s.Styles[node][prop].N, 0)
			}
			s.Styles[node][value.Top].N = 0
		}
		r, _ := layout.Lay(s, someRoom(some, false))
		last := map[int]int64{}
		for _, at := range kidsOfBlocks(s) {
			parent := s.Boxes[at].Parent
			if end, is := last[parent]; is {
				below++
				if r.Rects[at].Y < end {
					t.Fatalf("%d of %+v begins at %v, above %d", at, s, r.Rects[at], end)
				}
			}
			last[parent] = r.Rects[at].Y + r.Rects[at].H
		}
	}
	if below < 3000 {
		t.Errorf("no more than %d stand below another one", below)
	}
}

// isIn tells whether a box is another one, or stands in it.
func isIn(l []box.Box, at, in int) bool {
	for at > in {
		at = l[at].Parent
	}
	return at == in
}

// Left and Top move a box, and all in it, and nothing else.
func TestMovedBoxesMoveWhatIsInThem(t *testing.T) {
	some := rand.New(rand.NewSource(23))
	for range 3000 {
		s, room := someScene(t, some, false), someRoom(some, false)
		one, _ := layout.Lay(s, room)
		at := some.Intn(len(s.Boxes))
		if kind := s.Boxes[at].Kind; kind == box.Anon {
			continue
		}
		isMoved := at > 0 && s.Boxes[at].Kind <= box.Flex
		styles := slices.Clone(s.Styles)
		x, y := int64(some.Intn(500)-250), int64(some.Intn(500)-250)
		styles[s.Boxes[at].Node][value.Left].N += x
		styles[s.Boxes[at].Node][value.Top].N += y
		s.Styles = styles
		two, _ := layout.Lay(s, room)
		move := func(in int, r api.Rect) api.Rect {
			if isMoved && isIn(s.Boxes, in, at) && r != (api.Rect{}) {
				r.X, r.Y = r.X+x, r.Y+y
			}
			return r
		}
		for in := range s.Boxes {
			// Of a box of no fragments there is no place that could be moved.
			if s.Boxes[in].Kind <= box.Anon && isMoved && isIn(s.Boxes, in, at) && one.Rects[in] == (api.Rect{}) {
				one.Rects[in].X, one.Rects[in].Y = x, y
				continue
			}
			one.Rects[in] = move(in, one.Rects[in])
		}
		for i, f := range one.Frags {
			one.Frags[i].Rect.X, one.Frags[i].Rect.Y = f.Rect.X, f.Rect.Y
			if isMoved && isIn(s.Boxes, f.Box, at) {
				one.Frags[i].Rect.X, one.Frags[i].Rect.Y = f.Rect.X+x, f.Rect.Y+y
			}
		}
		if !equal(one, two) && !hasEmpty(one) {
			t.Fatalf("%d of %+v moved by %d, %d:\n%+v, want\n%+v", at, s, x, y, two, one)
		}
	}
}

// hasEmpty tells whether a fragment has no width and no height: it may begin at 0, 0, as boxes of no fragments do.
func hasEmpty(r layout.Result) bool {
	return slices.ContainsFunc(r.Frags, func(f layout.Frag) bool { return f.Rect.W == 0 && f.Rect.H == 0 })
}
