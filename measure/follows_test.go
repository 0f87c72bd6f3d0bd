package measure_test

import (
	"math/rand"
	"slices"
	"strings"
	"testing"

	"scrim/api"
	"scrim/box"
	"scrim/fixed"
	"scrim/measure"
	"scrim/res"
	"scrim/tree"
	"scrim/value"
)

// mark is a byte of a box's text, or an image.
type mark struct {
	at      int
	isImage bool
	b       byte
}

func (m mark) isBlank() bool { return !m.isImage && strings.IndexByte(" \t\n\r", m.b) >= 0 }

// marks tells all that stands in a box, in order.
func marks(s measure.Scene, at int) []mark {
	b := s.Boxes[at]
	var l []mark
	switch b.Kind {
	case box.Text:
		for _, one := range []byte(s.Doc[b.Node].Text) {
			l = append(l, mark{at: at, b: one})
		}
	case box.Image:
		l = append(l, mark{at: at, isImage: true})
	}
	for _, kid := range b.Kids {
		l = append(l, marks(s, kid)...)
	}
	return l
}

// imageByWords tells how wide and high an image is.
func imageByWords(s measure.Scene, at int) (int64, int64) {
	node := s.Boxes[at].Node
	var w, h int64
	for _, a := range s.Doc[node].Attrs {
		if a.Name == "src" {
			w, h, _ = res.Size(s.Table, a.Value)
		}
	}
	if v := s.Styles[node][value.Width]; v.Kind == api.Length {
		w = v.N
	}
	if v := s.Styles[node][value.Height]; v.Kind == api.Length {
		h = v.N
	}
	return w, h
}

// piecesByWords asks the chapter's words, mark by mark.
func piecesByWords(s measure.Scene, at int) ([]measure.Piece, bool) {
	size := func(at int) int64 { return s.Styles[s.Boxes[at].Node][value.FontSize].N }
	exact := true
	letter := func(at int) int64 {
		n, is := fixed.Mul(size(at), res.Advance(s.Table))
		exact = exact && is
		return n
	}
	var l []measure.Piece
	all := marks(s, at)
	for i := 0; i < len(all); i++ {
		m := all[i]
		if m.isBlank() {
			continue
		}
		p := measure.Piece{Box: m.at}
		if i > 0 && len(l) > 0 {
			ahead := all[i-1]
			if ahead.isBlank() {
				p.Gap = letter(ahead.at)
			}
			p.Break = m.isImage || ahead.isImage || ahead.isBlank()
		}
		if m.isImage {
			p.W, p.H = imageByWords(s, m.at)
			l = append(l, p)
			continue
		}
		end := i
		for end < len(all) && all[end].at == m.at && !all[end].isBlank() {
			p.Text += string([]byte{all[end].b})
			end++
		}
		w, is := fixed.Mul(letter(m.at), int64(end-i)*api.Unit)
		p.W, p.H, exact = w, size(m.at), exact && is
		l = append(l, p)
		i = end - 1
	}
	return l, exact
}

// someScene is one of texts, images, and boxes of any kind, with numbers from 0 to the greatest.
func someScene(t *testing.T, some *rand.Rand) measure.Scene {
	t.Helper()
	parts := []string{"a", "bc", " ", "\n ", "<i>", "<u>", "<b>", "<f>", "</i>", "</b>", "</u>", "</f>", `<img src="u">`, `<img src="v">`, `<img src="w">`, "<img>", "d e", "<i class=\"c\">", " "}
	sizes := []string{"0", "1px", "8px", "15.3px", "999999999px", "16px"}
	for {
		var s strings.Builder
		for range some.Intn(25) {
			s.WriteString(parts[some.Intn(len(parts))])
		}
		if _, e := tree.Read(s.String()); e != api.OK {
			continue
		}
		css := "b {display: block} f {display: flex}"
		for _, tag := range []string{"i", "u", "b", ".c"} {
			css += tag + " {font-size: " + sizes[some.Intn(len(sizes))] + "}"
		}
		for _, what := range []string{"width", "height"} {
			css += "img {" + what + ": " + []string{"auto", "50%", "5px", "0"}[some.Intn(4)] + "}"
		}
		return scene(t, s.String(), css, res.Table{
			Images: []res.Image{{Src: "u", W: int64(some.Intn(5000)), H: 3, Open: some.Intn(2) == 0}, {Src: "v", W: 4, H: int64(some.Intn(1 << 20))}},
			Font:   res.Font{Advance: int64(some.Intn(1025)), Open: some.Intn(2) == 0},
		})
	}
}

// widths tells the least and the greatest width of pieces that have neither a gap nor a width below 0, by the rows as they stand.
func widths(l []measure.Piece) (int64, int64) {
	var least, most, row int64
	for i, p := range l {
		most += p.Gap + p.W
		if i == 0 || p.Break {
			row = p.W
		} else {
			row += p.Gap + p.W
		}
		least = max(least, row)
	}
	return least, most
}

// P15.3

func TestManyScenes(t *testing.T) {
	some := rand.New(rand.NewSource(15))
	pieces, breaks, gaps, inexact := 0, 0, 0, 0
	for range 6000 {
		s := someScene(t, some)
		for at := range s.Boxes {
			got, is := measure.Pieces(s, at)
			want, wantIs := piecesByWords(s, at)
			if !slices.Equal(got, want) || is != wantIs {
				t.Fatalf("Pieces of %d of %+v:\n%+v, %v, want\n%+v, %v", at, s, got, is, want, wantIs)
			}
			for _, p := range got {
				pieces++
				if p.Break {
					breaks++
				}
				if p.Gap > 0 {
					gaps++
				}
			}
			if !is {
				inexact++
				continue
			}
			holdWidths(t, got)
			holdText(t, s, at, got)
		}
	}
	if pieces < 10000 || breaks < 3000 || gaps < 3000 || inexact < 100 {
		t.Errorf("%d pieces, %d breaks, %d gaps, %d that aren't exact", pieces, breaks, gaps, inexact)
	}
}

// holdWidths holds Min and Max, where they are exact.
func holdWidths(t *testing.T, l []measure.Piece) {
	t.Helper()
	least, most := widths(l)
	got, one := measure.Min(l)
	if one != (least <= top) || got != min(least, top) {
		t.Fatalf("Min of %+v is %d, %v, want %d", l, got, one, least)
	}
	greatest, two := measure.Max(l)
	if two != (most <= top) || greatest != min(most, top) {
		t.Fatalf("Max of %+v is %d, %v, want %d", l, greatest, two, most)
	}
	if got > greatest {
		t.Fatalf("of %+v Min is %d, Max %d", l, got, greatest)
	}
}

// holdText holds that words, with a space where a gap is, are the text. Where there are no images, a break is a gap.
func holdText(t *testing.T, s measure.Scene, at int, l []measure.Piece) {
	t.Helper()
	text, told := "", ""
	for _, m := range marks(s, at) {
		if m.isImage {
			return
		}
		text += string([]byte{m.b})
	}
	for _, p := range l {
		if p.Break {
			told += " "
		}
		told += p.Text
	}
	if want := strings.Join(strings.Fields(text), " "); told != want {
		t.Fatalf("the text of %d of %+v is %q, want %q", at, s, told, want)
	}
}

// Nothing of pieces hangs on what is secret.
func TestPiecesTellNothingSecret(t *testing.T) {
	some := rand.New(rand.NewSource(16))
	secret := 0
	for range 2000 {
		s := someScene(t, some)
		other := s
		other.Table = res.Table{Images: slices.Clone(s.Table.Images), Font: s.Table.Font}
		for i := range other.Table.Images {
			if !other.Table.Images[i].Open {
				other.Table.Images[i].W, other.Table.Images[i].H = int64(some.Intn(1<<20)), int64(some.Intn(1<<20))
				secret++
			}
		}
		if !other.Table.Font.Open {
			other.Table.Font.Advance = int64(some.Intn(1025))
		}
		for at := range s.Boxes {
			one, is := measure.Pieces(s, at)
			two, was := measure.Pieces(other, at)
			public := s
			public.Table = res.Public(s.Table)
			three, isPublic := measure.Pieces(public, at)
			if !slices.Equal(one, two) || is != was || !slices.Equal(one, three) || is != isPublic {
				t.Fatalf("by other secrets %+v is %+v, was %+v", s, two, one)
			}
		}
	}
	if secret < 1000 {
		t.Errorf("no more than %d were secret", secret)
	}
}

// Pieces that no scene has: with breaks, gaps and widths as they come.
func TestManyPieces(t *testing.T) {
	some := rand.New(rand.NewSource(17))
	for range 20000 {
		var l []measure.Piece
		for range some.Intn(8) {
			l = append(l, measure.Piece{W: int64(some.Intn(20)), Gap: int64(some.Intn(5)), Break: some.Intn(2) == 0})
			if some.Intn(30) == 0 {
				l[len(l)-1].W = top - int64(some.Intn(30))
			}
		}
		kept := slices.Clone(l)
		holdWidths(t, l)
		if !slices.Equal(l, kept) {
			t.Fatalf("pieces are now %+v", l)
		}
	}
}

func TestAnswersShareNothing(t *testing.T) {
	some := rand.New(rand.NewSource(18))
	for range 200 {
		s := someScene(t, some)
		doc, styles, images := tree.Copy(s.Doc), slices.Clone(s.Styles), slices.Clone(s.Table.Images)
		one, _ := measure.Pieces(s, 0)
		kept := slices.Clone(one)
		two, _ := measure.Pieces(s, 0)
		clear(two)
		again, _ := measure.Pieces(s, 0)
		if !slices.Equal(one, kept) || !slices.Equal(again, kept) {
			t.Fatalf("Pieces of %+v are now %+v", s, again)
		}
		if !slices.Equal(s.Styles, styles) || !slices.Equal(s.Table.Images, images) || !tree.May(s.Doc) || len(s.Doc) != len(doc) {
			t.Fatalf("the scene is now %+v", s)
		}
	}
}
