package cascade_test

import (
	"math/rand"
	"slices"
	"sort"
	"strings"
	"testing"

	"scrim/api"
	"scrim/cascade"
	"scrim/match"
	"scrim/selector"
	"scrim/sheet"
	"scrim/tree"
	"scrim/value"
)

// winnerByWords asks the chapter's words: all declarations that are for a node, from the least one on.
func winnerByWords(l []api.Node, node, prop int, rules []sheet.Rule, seen []string) (api.Value, bool) {
	type one struct {
		d      sheet.Decl
		weight int
	}
	var all []one
	for _, r := range rules {
		weight := -1
		for _, x := range r.Sels {
			if match.Is(l, node, x, seen) && selector.Weight(x) > weight {
				weight = selector.Weight(x)
			}
		}
		for _, d := range r.Decls {
			if weight >= 0 && d.Prop == prop {
				all = append(all, one{d, weight})
			}
		}
	}
	if len(all) == 0 {
		return api.Value{}, false
	}
	sort.SliceStable(all, func(i, k int) bool {
		if all[i].d.Strong != all[k].d.Strong {
			return all[k].d.Strong
		}
		return all[i].weight < all[k].weight
	})
	return all[len(all)-1].d.Value, true
}

// styleByWords tells one property of a node.
func styleByWords(l []api.Node, node, prop int, rules []sheet.Rule, seen []string) api.Value {
	if node < 0 {
		return value.First(prop)
	}
	if l[node].Tag != "" && node > 0 {
		if v, is := winnerByWords(l, node, prop, rules, seen); is {
			return v
		}
	}
	if value.Passed(prop) {
		return styleByWords(l, l[node].Parent, prop, rules, seen)
	}
	return value.First(prop)
}

func someText(some *rand.Rand, parts []string, most int) string {
	var s strings.Builder
	for range some.Intn(most + 1) {
		s.WriteString(parts[some.Intn(len(parts))])
	}
	return s.String()
}

// somePage is a document of links, mostly, and rules that are for many of its nodes.
func somePage(some *rand.Rand) ([]api.Node, []sheet.Rule) {
	for {
		l, e := tree.Read(someText(some, []string{`<a href="h">`, `<a href="k" class="c">`, `<a>`, `<p class="c d">`, `<b id="i">`, "<b>", "x", "<img>", "</a>", "</p>", "</b>"}, 25))
		rules, f := sheet.Read(someRules(some, 8))
		if e == api.OK && f == api.OK {
			return l, rules
		}
	}
}

func someRules(some *rand.Rand, most int) string {
	heads := []string{"*", "a", "b", "p", ".c", ".d", "#i", "a:link", ":visited", ":visited b", ":link > b", "a.c:visited", "p a", "p > b", "* *", "root"}
	props := []string{"top", "left", "color", "background-color", "font-size", "text-align", "display", "width", "order"}
	var s strings.Builder
	for range some.Intn(most + 1) {
		s.WriteString(heads[some.Intn(len(heads))])
		for range some.Intn(3) {
			s.WriteString(", " + heads[some.Intn(len(heads))])
		}
		s.WriteString(" {")
		for range some.Intn(6) {
			name := props[some.Intn(min(len(props), 3+some.Intn(7)))]
			texts := map[string][]string{"color": {"red", "blue", "green", "white"}, "background-color": {"red", "blue", "green"}, "text-align": {"left", "center", "right"}, "display": {"block", "inline", "flex", "none"}, "order": {"1", "2", "3"}}[name]
			if texts == nil {
				texts = []string{"1px", "2px", "3px", "4px", "5px"}
			}
			s.WriteString(name + ": " + texts[some.Intn(len(texts))] + []string{"", "", "", " !important"}[some.Intn(4)] + ";")
		}
		s.WriteString("}")
	}
	return s.String()
}

func someSeen(some *rand.Rand) []string {
	var seen []string
	for _, to := range []string{"x", "h", "k"} {
		if some.Intn(2) == 0 {
			seen = append(seen, to)
		}
	}
	return seen
}

// holdPage holds one page against the chapter's words; it tells how much of it was won, and how much of what is painted isn't public.
func holdPage(t *testing.T, l []api.Node, rules []sheet.Rule, seen []string) (int, int) {
	t.Helper()
	styles, public, painted := cascade.Styles(l, rules, seen), cascade.Public(l, rules), cascade.Paint(l, rules, seen)
	if len(styles) != len(l) || len(public) != len(l) || len(painted) != len(l) {
		t.Fatalf("of %d nodes: %d, %d, %d styles", len(l), len(styles), len(public), len(painted))
	}
	won, secret := 0, 0
	for node := range l {
		for prop := range value.Many {
			v, is := cascade.Winner(l, node, prop, rules, seen)
			want, wantIs := winnerByWords(l, node, prop, rules, seen)
			if v != want || is != wantIs {
				t.Fatalf("Winner(%d, %d, %q, %q) = %v, %v, want %v, %v", node, prop, sheet.Print(rules), seen, v, is, want, wantIs)
			}
			if is {
				won++
			}
			told, open := styleByWords(l, node, prop, rules, seen), styleByWords(l, node, prop, rules, nil)
			paint := open
			if prop == value.Color || prop == value.Background {
				paint = told
			}
			if styles[node][prop] != told || public[node][prop] != open || painted[node][prop] != paint {
				t.Fatalf("%d of %d, %q, %q: %v, %v, %v, want %v, %v, %v", prop, node, sheet.Print(rules), seen, styles[node][prop], public[node][prop], painted[node][prop], told, open, paint)
			}
			if paint != open {
				secret++
			}
			if prop > 0 && !(value.May(prop, told) && value.May(prop, open) && value.May(prop, paint)) {
				t.Fatalf("%d of %d may not be %v, %v, %v", prop, node, told, open, paint)
			}
		}
	}
	return won, secret
}

// P12.2

func TestManyPages(t *testing.T) {
	some := rand.New(rand.NewSource(12))
	won, secret := 0, 0
	for range 800 {
		l, rules := somePage(some)
		w, s := holdPage(t, l, rules, someSeen(some))
		won, secret = won+w, secret+s
	}
	if won < 10000 || secret < 300 {
		t.Errorf("%d were won, %d are secret", won, secret)
	}
}

func TestRulesForNoNode(t *testing.T) {
	some := rand.New(rand.NewSource(13))
	for range 200 {
		l, rules := somePage(some)
		seen := someSeen(some)
		for _, css := range []string{"z {color: red !important; top: 9px}", "a z, p.z, #z {display: none; order: 9 !important}", "b:visited, a:link:visited {font-size: 9px}", "a {}"} {
			_, other := read(t, "", css)
			for at := range len(rules) + 1 {
				more := slices.Concat(rules[:at], other, rules[at:])
				if !slices.Equal(cascade.Styles(l, more, seen), cascade.Styles(l, rules, seen)) || !slices.Equal(cascade.Paint(l, more, seen), cascade.Paint(l, rules, seen)) {
					t.Fatalf("%q at %d of %q changes what it is", css, at, sheet.Print(rules))
				}
			}
		}
	}
}

func TestStrongOnesBehindAll(t *testing.T) {
	some := rand.New(rand.NewSource(14))
	for range 200 {
		l, rules := somePage(some)
		seen := someSeen(some)
		for _, css := range []string{"* {left: 9px !important}", "* {color: #123456 !important}", "* {font-size: 9px !important}"} {
			_, last := read(t, "", css)
			d := last[0].Decls[0]
			// None weighs more that is strong.
			for i := range rules {
				for k := range rules[i].Decls {
					rules[i].Decls[k].Strong = false
				}
			}
			styles := cascade.Styles(l, append(slices.Clone(rules), last...), seen)
			for node, n := range l {
				if n.Tag != "" && node > 0 && styles[node][d.Prop] != d.Value {
					t.Fatalf("%q behind %q: %v", css, sheet.Print(rules), styles[node][d.Prop])
				}
			}
		}
	}
}

// What was visited changes nothing of what is public, and of what is painted colors alone.
func TestWhatIsToldHangsOnWhatIsPublic(t *testing.T) {
	some := rand.New(rand.NewSource(15))
	for range 200 {
		l, rules := somePage(some)
		public := cascade.Public(l, rules)
		painted := cascade.Paint(l, rules, []string{"h", "k"})
		for node := range l {
			painted[node][value.Color], painted[node][value.Background] = public[node][value.Color], public[node][value.Background]
			if painted[node] != public[node] {
				t.Fatalf("of %d, %v is painted, %v public", node, painted[node], public[node])
			}
		}
		if !slices.Equal(public, cascade.Styles(l, rules, nil)) {
			t.Fatalf("%q: what is public isn't that of nothing visited", sheet.Print(rules))
		}
	}
}

func TestAskingChangesNothing(t *testing.T) {
	some := rand.New(rand.NewSource(16))
	for range 200 {
		l, rules := somePage(some)
		seen := someSeen(some)
		keptNodes, keptText, keptSeen := tree.Copy(l), sheet.Print(rules), slices.Clone(seen)
		keptRules, _ := sheet.Read(keptText)
		one := cascade.Paint(l, rules, seen)
		kept := slices.Clone(one)
		cascade.Winner(l, len(l)-1, value.Top, rules, seen)
		cascade.Styles(l, rules, seen)
		public := cascade.Public(l, rules)
		clear(public)
		again := cascade.Paint(l, rules, seen)
		if !slices.Equal(one, kept) || !slices.Equal(again, kept) {
			t.Fatalf("Paint of %q is now %v", keptText, again)
		}
		clear(again)
		if sheet.Print(rules) != keptText || !sheet.Same(rules, keptRules) || !slices.Equal(seen, keptSeen) || !tree.May(l) || len(l) != len(keptNodes) {
			t.Fatalf("rules are now %q", sheet.Print(rules))
		}
		if !slices.Equal(cascade.Paint(keptNodes, keptRules, keptSeen), kept) {
			t.Fatalf("of the same: %q", keptText)
		}
	}
}
