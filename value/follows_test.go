package value_test

import (
	"math/big"
	"math/rand"
	"regexp"
	"strings"
	"testing"

	"scrim/api"
	"scrim/value"
)

// What the chapter's words say, as patterns.
var (
	aNumber = regexp.MustCompile(`\A-?[0-9]{1,9}(?:\.[0-9]{1,6})?\z`)
	aColor  = regexp.MustCompile(`\A#([0-9a-f]{6})\z`)
	printed = regexp.MustCompile(`\A(?:auto|#[0-9a-f]{6}|[a-z]+|-?(?:0|[1-9][0-9]*)(?:\.[0-9]*[1-9])?(?:px|%)?)\z`)
)

// unitsOf tells a number's text by units, by numbers without end.
func unitsOf(text string) (int64, bool) {
	if !aNumber.MatchString(text) {
		return 0, false
	}
	n, _ := new(big.Rat).SetString(text)
	n.Mul(n, big.NewRat(api.Unit, 1))
	return new(big.Int).Quo(n.Num(), n.Denom()).Int64(), true
}

// wanted tells what a property reads a text as that is trimmed, and small.
func wanted(s sort, text string) (api.Value, bool) {
	number := func(kind int, text string) (api.Value, bool) {
		n, is := unitsOf(text)
		from, to, may := s.span(kind)
		if !is || !may || n < from || n > to {
			return api.Value{}, false
		}
		return v(kind, n), true
	}
	for n, word := range strings.Fields(s.words) {
		if word == text {
			return v(api.Word, int64(n)), true
		}
	}
	if m := aColor.FindStringSubmatch(text); m != nil && s.has("color") {
		n, _ := new(big.Int).SetString(m[1], 16)
		return v(api.Color, n.Int64()), true
	}
	if length, is := strings.CutSuffix(text, "px"); is {
		return number(api.Length, length)
	}
	if percent, is := strings.CutSuffix(text, "%"); is {
		return number(api.Percent, percent)
	}
	if got, is := number(api.Number, text); is {
		return got, true
	}
	if text == "0" {
		return number(api.Length, text)
	}
	if text == "auto" && s.has("auto") {
		return v(api.Auto, 0), true
	}
	names := map[string]int64{"black": 0, "white": 0xffffff, "red": 0xff0000, "green": 0x8000, "blue": 0xff}
	if n, is := names[text]; is && s.has("color") {
		return v(api.Color, n), true
	}
	return api.Value{}, false
}

// hold holds all that follows of one text, of all properties.
func hold(t *testing.T, text string) {
	t.Helper()
	told := strings.Map(func(r rune) rune {
		if 'A' <= r && r <= 'Z' {
			return r - 'A' + 'a'
		}
		return r
	}, strings.Trim(text, " \t\n\r"))
	for _, s := range sorts() {
		got, is := value.Read(s.prop, text)
		want, wantIs := wanted(s, told)
		if got != want || is != wantIs {
			t.Fatalf("Read(%d, %q) = %v, %v, want %v, %v", s.prop, text, got, is, want, wantIs)
		}
		if is {
			holdValue(t, s.prop, got)
		}
	}
}

// holdValue holds that what is printed is read as what it was.
func holdValue(t *testing.T, prop int, want api.Value) {
	t.Helper()
	text := value.Print(prop, want)
	got, is := value.Read(prop, text)
	if got != want || !is || !value.May(prop, want) || !printed.MatchString(text) || strings.HasPrefix(text, "-0px") {
		t.Fatalf("%v of %d is printed as %q, read as %v, %v", want, prop, text, got, is)
	}
}

// P8.4

func TestAllShortTexts(t *testing.T) {
	const bytes = "01-.px%"
	for length := range 6 {
		at := make([]byte, length)
		var fill func(i int)
		fill = func(i int) {
			if i == length {
				hold(t, string(at))
				return
			}
			for _, b := range []byte(bytes) {
				at[i] = b
				fill(i + 1)
			}
		}
		fill(0)
	}
}

func TestTextsOfParts(t *testing.T) {
	parts := []string{"0", "1", "9", "12345", "999999999", ".", ".5", ".015625", ".999999", "-", "px", "PX", "%", " ", "\n", "auto", "Auto", "#", "#00ff", "a1", "ff0000", "red", "BLUE", "block", "Row", "none", "center", "e", "+", "\xff", "ä"}
	some := rand.New(rand.NewSource(8))
	for range 20000 {
		var s strings.Builder
		for range some.Intn(6) {
			s.WriteString(parts[some.Intn(len(parts))])
		}
		hold(t, s.String())
	}
}

func TestWhatIsPrintedIsReadAsWhatItWas(t *testing.T) {
	some := rand.New(rand.NewSource(9))
	numbers := edges()
	for range 2000 {
		numbers = append(numbers, some.Int63n(2*most)-most, some.Int63n(1<<25), some.Int63n(20000)-10000)
	}
	for _, s := range sorts() {
		for kind := api.None; kind <= api.Number; kind++ {
			for _, n := range numbers {
				if value.May(s.prop, v(kind, n)) {
					holdValue(t, s.prop, v(kind, n))
				}
			}
		}
		holdValue(t, s.prop, value.First(s.prop))
	}
}

func TestNamesAndPropertiesAreEachOthers(t *testing.T) {
	seen := map[string]int{}
	for prop := 1; prop < value.Many; prop++ {
		name := value.Name(prop)
		if seen[name]++; seen[name] > 1 || name == "" || value.Prop(name) != prop {
			t.Errorf("%d is named %q, which names %d", prop, name, value.Prop(name))
		}
	}
}

// What a text of more digits than may be stands for isn't read, however long it is.
func TestLongTexts(t *testing.T) {
	for _, text := range []string{strings.Repeat("9", 1<<20) + "px", "1." + strings.Repeat("0", 1<<20), "#" + strings.Repeat("0", 1<<20), strings.Repeat("-", 1<<20), strings.Repeat("a", 1<<20)} {
		for _, s := range sorts() {
			if got, is := value.Read(s.prop, text); is {
				t.Errorf("Read(%d, %.9q ..) = %v", s.prop, text, got)
			}
		}
	}
	blanks := strings.Repeat(" \n", 1<<19)
	for _, s := range sorts() {
		if got, is := value.Read(s.prop, blanks+s.first+blanks); got != value.First(s.prop) || !is {
			t.Errorf("Read(%d) of %q in blanks: %v, %v", s.prop, s.first, got, is)
		}
	}
}
