package res_test

import (
	"math/rand"
	"slices"
	"testing"

	"scrim/res"
)

// publicByWords asks the chapter's words.
func publicByWords(x res.Table) res.Table {
	public := of(x.Font, slices.Clone(x.Images)...)
	for i := range public.Images {
		if !public.Images[i].Open {
			public.Images[i].W, public.Images[i].H = 0, 0
		}
	}
	if !public.Font.Open {
		public.Font.Advance = 0
	}
	return public
}

// someTable is one of few Srcs, and of numbers near the edges.
func someTable(some *rand.Rand) res.Table {
	numbers := []int64{0, 1, 2, 32, 1023, 1024, 1025, mostSize - 1, mostSize}
	if some.Intn(10) == 0 {
		numbers = append(numbers, -1, mostSize+1, 1<<40)
	}
	n := func(most int) int64 { return numbers[some.Intn(min(most, len(numbers)))] }
	var x res.Table
	for _, src := range []string{"u", "", "v", "w", "x", "y"} {
		if some.Intn(2) == 0 {
			x.Images = append(x.Images, res.Image{Src: src, W: n(99), H: n(99), Open: some.Intn(2) == 0})
		}
		if some.Intn(40) == 0 {
			x.Images = append(x.Images, res.Image{Src: "u", W: n(99), H: n(99)})
		}
	}
	x.Font = res.Font{Advance: n(6), Open: some.Intn(2) == 0}
	if some.Intn(20) == 0 {
		x.Font.Advance = n(99)
	}
	return x
}

// mayByWords asks the chapter's words.
func mayByWords(x res.Table) bool {
	seen := map[string]int{}
	may := len(x.Images) <= 20 && x.Font.Advance >= 0 && x.Font.Advance <= 1024
	for _, i := range x.Images {
		seen[i.Src]++
		may = may && seen[i.Src] == 1 && i.W >= 0 && i.H >= 0 && i.W <= mostSize && i.H <= mostSize
	}
	return may
}

// withOtherSecrets is a table that is alike.
func withOtherSecrets(some *rand.Rand, x res.Table) res.Table {
	other := of(x.Font, slices.Clone(x.Images)...)
	for i := range other.Images {
		if !other.Images[i].Open {
			other.Images[i].W, other.Images[i].H = int64(some.Intn(mostSize)), int64(some.Intn(mostSize))
		}
	}
	if !other.Font.Open {
		other.Font.Advance = int64(some.Intn(1025))
	}
	return other
}

// tellTheSame holds that Size and Advance of two tables are the same.
func tellTheSame(t *testing.T, a, b res.Table) {
	t.Helper()
	if res.Advance(a) != res.Advance(b) {
		t.Fatalf("Advance of %v is %d, of %v %d", a, res.Advance(a), b, res.Advance(b))
	}
	for _, src := range []string{"u", "", "v", "w", "x", "y", "z", "spoilt"} {
		w, h, is := res.Size(a, src)
		u, v, was := res.Size(b, src)
		if w != u || h != v || is != was {
			t.Fatalf("Size of %q in %v is %d, %d, %v, in %v %d, %d, %v", src, a, w, h, is, b, u, v, was)
		}
	}
}

// P13.3

func TestSizeAndAdvanceTellNothingSecret(t *testing.T) {
	some := rand.New(rand.NewSource(13))
	may, secret := map[bool]int{}, 0
	for range 20000 {
		x := someTable(some)
		may[res.May(x)]++
		if res.May(x) != mayByWords(x) {
			t.Fatalf("May(%v) = %v", x, res.May(x))
		}
		public := res.Public(x)
		if !equal(public, publicByWords(x)) {
			t.Fatalf("Public(%v) = %v", x, public)
		}
		other := withOtherSecrets(some, x)
		if !res.Alike(x, other) || !res.Alike(other, x) || !res.Alike(x, public) || !equal(res.Public(other), public) {
			t.Fatalf("%v and %v aren't alike", x, other)
		}
		tellTheSame(t, x, other)
		tellTheSame(t, x, public)
		if !equal(x, other) {
			secret++
		}
		for _, i := range x.Images {
			w, h, is := res.True(x, i.Src)
			at := slices.IndexFunc(x.Images, func(k res.Image) bool { return k.Src == i.Src })
			if first := x.Images[at]; w != first.W || h != first.H || !is {
				t.Fatalf("True of %q in %v is %d, %d, %v", i.Src, x, w, h, is)
			}
		}
	}
	if may[true] < 1000 || may[false] < 1000 || secret < 1000 {
		t.Errorf("%v, %d secret", may, secret)
	}
}

func TestAlikeIsTheSameInWhatIsPublic(t *testing.T) {
	some := rand.New(rand.NewSource(14))
	are := map[bool]int{}
	for range 20000 {
		a := someTable(some)
		b := withOtherSecrets(some, a)
		if some.Intn(2) == 0 {
			b = someTable(some)
		}
		if n := len(b.Images); n > 0 && some.Intn(3) == 0 {
			i := &b.Images[some.Intn(n)]
			*i = []res.Image{image(i.Src, i.W, i.H), open(i.Src, i.W, i.H), image(i.Src+"z", i.W, i.H), {Src: i.Src, W: i.W + 1, H: i.H, Open: i.Open}}[some.Intn(4)]
		}
		want := equal(publicByWords(a), publicByWords(b))
		are[want]++
		if res.Alike(a, b) != want || res.Alike(b, a) != want {
			t.Fatalf("Alike(%v, %v) isn't %v", a, b, want)
		}
	}
	if are[true] < 1000 || are[false] < 1000 {
		t.Errorf("%v", are)
	}
}

func TestWhereAllIsOpenNothingIsSecret(t *testing.T) {
	some := rand.New(rand.NewSource(15))
	for range 2000 {
		x := someTable(some)
		x.Font.Open = true
		for i := range x.Images {
			x.Images[i].Open = true
		}
		if !equal(res.Public(x), x) || res.Advance(x) != x.Font.Advance {
			t.Fatalf("Public(%v) = %v", x, res.Public(x))
		}
		for _, i := range x.Images {
			w, h, is := res.Size(x, i.Src)
			if u, v, was := res.True(x, i.Src); w != u || h != v || is != was || !is {
				t.Fatalf("of %q in %v: %d, %d, %v", i.Src, x, w, h, is)
			}
		}
	}
}
