package sheet_test

import (
	"slices"
	"strings"
	"testing"

	"scrim/api"
	"scrim/selector"
	"scrim/sheet"
	"scrim/value"
)

// px makes a declaration of a length, in pixels.
func px(prop int, pixels int64) sheet.Decl {
	return sheet.Decl{Prop: prop, Value: api.Value{Kind: api.Length, N: pixels * api.Unit}}
}

func auto(prop int) sheet.Decl { return sheet.Decl{Prop: prop, Value: api.Value{Kind: api.Auto}} }

func of(prop, kind int, n int64) sheet.Decl {
	return sheet.Decl{Prop: prop, Value: api.Value{Kind: kind, N: n}}
}

// strong makes declarations strong.
func strong(l ...sheet.Decl) []sheet.Decl {
	var all []sheet.Decl
	for _, d := range l {
		d.Strong = true
		all = append(all, d)
	}
	return all
}

// rule makes a rule of selectors' texts.
func rule(t *testing.T, heads string, decls ...sheet.Decl) sheet.Rule {
	t.Helper()
	sels, is := selector.List(heads)
	if !is {
		t.Fatalf("%q is no list of selectors", heads)
	}
	return sheet.Rule{Sels: sels, Decls: decls}
}

// equal holds rules against each other, one by one.
func equal(a, b []sheet.Rule) bool {
	if len(a) != len(b) {
		return false
	}
	for i := range a {
		if len(a[i].Sels) != len(b[i].Sels) || !slices.Equal(a[i].Decls, b[i].Decls) {
			return false
		}
		for k, x := range a[i].Sels {
			if !selector.Same(x, b[i].Sels[k]) {
				return false
			}
		}
	}
	return true
}

// checkDecls holds what declarations a text has.
func checkDecls(t *testing.T, s string, want ...sheet.Decl) {
	t.Helper()
	if got := sheet.Decls(s); !slices.Equal(got, want) {
		t.Errorf("Decls(%q) = %v, want %v", s, got, want)
	}
}

// check holds what rules a text has.
func check(t *testing.T, s string, want ...sheet.Rule) {
	t.Helper()
	if got, e := sheet.Read(s); !equal(got, want) || e != api.OK {
		t.Errorf("Read(%q) = %v, %d, want %v", s, got, e, want)
	}
}

// checkFull holds that a text has too much.
func checkFull(t *testing.T, s string) {
	t.Helper()
	if got, e := sheet.Read(s); len(got) != 0 || e != api.ErrFull {
		t.Errorf("Read(%q) = %v, %d", s, got, e)
	}
}

// P10.1

// one is a text of a declaration of each property.
func one() map[string]sheet.Decl {
	return map[string]sheet.Decl{
		"display:flex": of(value.Display, api.Word, value.Flex), "display:none": of(value.Display, api.Word, value.Hidden),
		"width:50%": of(value.Width, api.Percent, 50*api.Unit), "width:auto": auto(value.Width), "height:1.5px": of(value.Height, api.Length, 96),
		"margin-top:-1px": px(value.MarginTop, -1), "margin-right:auto": auto(value.MarginRight), "margin-bottom:0": px(value.MarginBottom, 0), "margin-left:3px": px(value.MarginLeft, 3),
		"padding-top:1px": px(value.PaddingTop, 1), "padding-right:2px": px(value.PaddingRight, 2), "padding-bottom:3px": px(value.PaddingBottom, 3), "padding-left:4px": px(value.PaddingLeft, 4),
		"border-top-width:1px": px(value.BorderTop, 1), "border-right-width:2px": px(value.BorderRight, 2), "border-bottom-width:3px": px(value.BorderBottom, 3), "border-left-width:4px": px(value.BorderLeft, 4),
		"color:red": of(value.Color, api.Color, 0xff0000), "background-color:#00ff7f": of(value.Background, api.Color, 0x00ff7f),
		"font-size:8px": px(value.FontSize, 8), "text-align:right": of(value.TextAlign, api.Word, value.AtRight),
		"flex-grow:2": of(value.Grow, api.Number, 2*api.Unit), "flex-shrink:0.5": of(value.Shrink, api.Number, api.Unit/2),
		"flex-direction:column": of(value.Direction, api.Word, value.Column), "justify-content:between": of(value.Justify, api.Word, value.Between),
		"order:-3": of(value.Order, api.Number, -3*api.Unit), "left:5px": px(value.Left, 5), "top:-6px": px(value.Top, -6),
	}
}

func TestDeclsOfEachProperty(t *testing.T) {
	seen := map[int]bool{}
	for s, d := range one() {
		seen[d.Prop] = true
		name, text, _ := strings.Cut(s, ":")
		for _, s := range []string{s, name + ": " + text, name + " :" + text, " " + name + "\t:\r\n" + text + "\n", strings.ToUpper(s), s + ";", ";" + s, " ; " + s + " ; "} {
			checkDecls(t, s, d)
		}
		strongOne := strong(d)[0]
		for _, sign := range []string{"!important", " !important", "\n\t!important \r", "!IMPORTANT", " !Important"} {
			checkDecls(t, s+sign, strongOne)
			checkDecls(t, " "+strings.ToUpper(name)+" : "+text+sign+"; top:1px", strongOne, px(value.Top, 1))
		}
	}
	for prop := 1; prop < value.Many; prop++ {
		if !seen[prop] {
			t.Errorf("nothing of %d", prop)
		}
	}
}

// none are texts that are no declarations.
func none() []string {
	l := []string{
		"", " ", "\n\t", ":", "::", " : ", "top", "top 1px", "top=1px", "1px", ":1px", " :1px", "top:", "top: ", "top::1px", "top:1px:", "top:1px:2px", ":top:1px", "top:1px!important:",
		"x:1px", "to:1px", "topp:1px", "to p:1px", "top-:1px", "-top:1px", "top left:1px", "top,left:1px", "border-top:1px", "border:1px", "background:red", "flex:1", "margin-:1px", "margin -top:1px", "all:1px", "--x:1px", "töp:1px", "\vtop:1px", "top\u00a0:1px", "*:1px", "\x00:1px",
		"top:1", "top:px", "top:1 px", "top:1px 2px", "top:1px,", "top:auto", "top:1%", "top:red", "top:1em", "top:+1px", "top:1px\v", "top:1\u00a0px", "top:\u00a01px", "top:/**/1px", "top:1px/**/", "/**/top:1px", "top:{1px}", "{top:1px", "top:1px}", "top:1px,2px", "top:\"1px\"",
		"width:-1px", "padding-top:-1px", "padding-top:auto", "border-top-width:auto", "color:1px", "color:#ff00", "color:pink", "display:table", "font-size:-1px", "font-size:1%", "order:1px", "flex-grow:-1", "order:auto", "text-align:auto", "justify-content:middle",
		// Of strong ones.
		"top:!important", "top: !important", "!important", "top!important", "top!important:1px", "!important:1px", "top:!important 1px", "top:1px important", "top:1px ! important", "top:1px !im portant", "top:1px! important", "top:1px !importan", "top:1px !importantt", "top:1px !!important", "top:1px !important !important", "top:1px!important!important", "top:1px !important 2px", "top:1px !important,", "top:1px\v!important", "top:1px !\u0130mportant", "top:1px !important!",
	}
	for _, short := range []string{"margin", "padding", "border-width"} {
		for _, texts := range []string{"", " ", "!important", " !important", "1px 2px 3px 4px 5px", "1px 1px 1px 1px 1px", "0 0 0 0 0 0 0 0", "x", "1px x", "x 1px", "1px 2px x", "1px x 3px", "1px 2px 3px x", "1px 2px x 4px", "1px x 3px 4px", "x 2px 3px 4px", "1px,2px", "1px, 2px", "1px:2px", "1", "1px 2", "50%", "1px 50%", "red", "1px!important 2px", "1px !important 2px", "1px !important !important", "1px ! important", "1px 2px 3px 4px 5px!important", "1px\v2px", "1px\u00a02px"} {
			l = append(l, short+":"+texts)
		}
		l = append(l, short, short+" 1px", "x"+short+":1px", short+"s:1px", short+"::1px", short+" top:1px")
	}
	for _, short := range []string{"padding", "border-width"} {
		for _, texts := range []string{"auto", "auto auto", "1px auto", "auto 1px", "1px 2px auto", "1px 2px 3px auto", "1px 2px auto 4px", "-1px", "1px -1px", "1px 2px -1px", "1px 2px 3px -1px"} {
			l = append(l, short+":"+texts)
		}
	}
	return l
}

func TestDeclsThatAreNone(t *testing.T) {
	top, left := px(value.Top, 1), px(value.Left, 2)
	for _, s := range none() {
		checkDecls(t, s)
		checkDecls(t, s+";"+s)
		// They change nothing of others.
		checkDecls(t, "top:1px;"+s+";left:2px", top, left)
		checkDecls(t, s+";top:1px; left : 2px;"+s, top, left)
		checkDecls(t, "top:1px ;"+s+";"+s+";top:1px!important", top, strong(top)[0])
	}
}

func TestDeclsInOrder(t *testing.T) {
	checkDecls(t, "top:1px;left:2px", px(value.Top, 1), px(value.Left, 2))
	checkDecls(t, "left:2px;top:1px", px(value.Left, 2), px(value.Top, 1))
	checkDecls(t, "top:1px;top:2px;top:1px;top:1px", px(value.Top, 1), px(value.Top, 2), px(value.Top, 1), px(value.Top, 1))
	checkDecls(t, "top:1px!important;top:2px", strong(px(value.Top, 1))[0], px(value.Top, 2))
	checkDecls(t, "margin-left:auto;margin:1px;margin-top:2px",
		auto(value.MarginLeft), px(value.MarginTop, 1), px(value.MarginRight, 1), px(value.MarginBottom, 1), px(value.MarginLeft, 1), px(value.MarginTop, 2))
	checkDecls(t, strings.Repeat("order:1;", 200), slices.Repeat([]sheet.Decl{of(value.Order, api.Number, api.Unit)}, 200)...)
	checkDecls(t, strings.Repeat(";", 1000)+"order:1"+strings.Repeat(" ;", 1000), of(value.Order, api.Number, api.Unit))
}

func TestShortNames(t *testing.T) {
	for name, top := range map[string]int{"margin": value.MarginTop, "padding": value.PaddingTop, "border-width": value.BorderTop} {
		for _, c := range []struct {
			texts                    string
			top, right, bottom, left int64
		}{
			{"1px", 1, 1, 1, 1}, {"0", 0, 0, 0, 0}, {"1px 2px", 1, 2, 1, 2}, {"2px 0", 2, 0, 2, 0}, {"1px 2px 3px", 1, 2, 3, 2}, {"0 1px 2px", 0, 1, 2, 1}, {"1px 2px 3px 4px", 1, 2, 3, 4}, {"4px 3px 2px 1px", 4, 3, 2, 1}, {"5px 5px 5px 5px", 5, 5, 5, 5},
		} {
			want := []sheet.Decl{px(top, c.top), px(top+1, c.right), px(top+2, c.bottom), px(top+3, c.left)}
			wide := strings.ReplaceAll(c.texts, " ", " \t\r\n ")
			for _, s := range []string{name + ":" + c.texts, name + " : " + c.texts + " ", "\n" + strings.ToUpper(name+":\t"+c.texts), name + ":" + wide} {
				checkDecls(t, s, want...)
				checkDecls(t, s+"!important", strong(want...)...)
				checkDecls(t, s+" !Important\n", strong(want...)...)
				checkDecls(t, "top:1px;"+s+";left:2px", append(append([]sheet.Decl{px(value.Top, 1)}, want...), px(value.Left, 2))...)
			}
		}
	}
	checkDecls(t, "margin:auto", auto(value.MarginTop), auto(value.MarginRight), auto(value.MarginBottom), auto(value.MarginLeft))
	checkDecls(t, "margin:-1px AUTO", px(value.MarginTop, -1), auto(value.MarginRight), px(value.MarginBottom, -1), auto(value.MarginLeft))
	checkDecls(t, "margin:auto 1px 2px -3px", auto(value.MarginTop), px(value.MarginRight, 1), px(value.MarginBottom, 2), px(value.MarginLeft, -3))
	checkDecls(t, "margin:1.5px auto 0!important", strong(of(value.MarginTop, api.Length, 96), auto(value.MarginRight), px(value.MarginBottom, 0), auto(value.MarginLeft))...)
}

// P10.2

func TestRead(t *testing.T) {
	top, left := px(value.Top, 1), px(value.Left, 2)
	check(t, "")
	check(t, " \n")
	check(t, "a{}", rule(t, "a"))
	check(t, "a{top:1px}", rule(t, "a", top))
	check(t, "\n a \t{\r top : 1px ; left:2px; } ", rule(t, "a", top, left))
	check(t, "a{top:1px}b{}a{left:2px}", rule(t, "a", top), rule(t, "b"), rule(t, "a", left))
	check(t, "A , .X > b:LINK#i{TOP:1PX}", rule(t, "a, .x > b:link#i", top))
	check(t, "a,a{margin:1px!important}", rule(t, "a,a", strong(px(value.MarginTop, 1), px(value.MarginRight, 1), px(value.MarginBottom, 1), px(value.MarginLeft, 1))...))
	check(t, "*{x;y:z;;top:1px;}", rule(t, "*", top))
	check(t, "root{}img{}", rule(t, "root"), rule(t, "img"))
	// What isn't whole, or has no selectors.
	check(t, "a")
	check(t, "a{")
	check(t, "a{top:1px")
	check(t, "a}")
	check(t, "top:1px")
	check(t, "{}")
	check(t, "{top:1px}")
	check(t, "{}a{}", rule(t, "a"))
	check(t, "}a{top:1px}}}b{}", rule(t, "a", top), rule(t, "b"))
	check(t, "a}b{top:1px}", rule(t, "b", top))
	check(t, "a{b{top:1px}left:2px}c{}", rule(t, "a"), rule(t, "c"))
	check(t, "a;b{top:1px}c{}", rule(t, "c"))
	check(t, "a,{top:1px},b{}c,,d{}+{}1{}a b >{}> a{}:hover{}a:x,b{}c{}", rule(t, "c"))
	check(t, "@media x{a{top:1px}}b{left:2px}", rule(t, "b", left))
	check(t, strings.Repeat("a ", 9)+"{}"+strings.Repeat("a ", 8)+"{}", rule(t, strings.Repeat("a ", 8)))
	// What a rule's selectors and declarations are isn't bounded here.
	check(t, strings.Repeat("a,", 20)+"a{}", rule(t, strings.Repeat("a,", 20)+"a"))
	check(t, "a{"+strings.Repeat("top:1px;", 61)+"}", rule(t, "a", slices.Repeat([]sheet.Decl{top}, 61)...))
}

func TestRemarks(t *testing.T) {
	top, left := px(value.Top, 1), px(value.Left, 2)
	for _, s := range []string{
		"/**/a{top:1px}", "a/**/{top:1px}", "a{/**/top:1px}", "a{top/**/:1px}", "a{top:/**/1px}", "a{top:1px/**/}", "a{top:1px}/**/", "a{top:1px}/*", "/*x*//*y*/a{top:1px}",
		"/* a{left:2px} */a{top:1px}", "a{/*left:2px;*/top:1px}", "a{top:1px;/*left:2px}*/}", "/*{*/a{top:1px}", "/*}*/a{top:1px}/*{*/", "a{top:1px/*}*/}", "a{top:1px}/*b{}", "a{top:1px/*;*/;}", "/*/ b{} */a{top:1px}", "/***/a{top:1px/****/}",
	} {
		check(t, s, rule(t, "a", top))
	}
	check(t, "a/**/b{top:1px}", rule(t, "a b", top))
	check(t, "a/*>*/b{}", rule(t, "a b"))
	check(t, "a/*,*/b{}c{}", rule(t, "a b"), rule(t, "c"))
	check(t, "a{to/**/p:1px;left:2px}", rule(t, "a", left))
	check(t, "a{top:1/**/px;left:2px}", rule(t, "a", left))
	check(t, "a{top:1px/**/!important;left:2px!/**/important}", rule(t, "a", strong(top)...))
	check(t, "a{margin:1px/**/2px}", rule(t, "a", px(value.MarginTop, 1), px(value.MarginRight, 2), px(value.MarginBottom, 1), px(value.MarginLeft, 2)))
	check(t, "a{top:1px}*/b{}", rule(t, "a", top))
	check(t, "a{top:1px/*}")
	check(t, "a/*{top:1px}")
	check(t, "/*")
	check(t, "/**/")
}

// filled is a text with blanks behind it, of so many bytes.
func filled(s string, length int) string { return s + strings.Repeat(" ", length-len(s)) }

func TestReadAsMuchAsMayBe(t *testing.T) {
	a := rule(t, "a")
	for n := range api.MostRules + 1 {
		check(t, strings.Repeat("a{}", n), slices.Repeat([]sheet.Rule{a}, n)...)
		check(t, strings.Repeat("a{}+{}{}}", n)+"+{}", slices.Repeat([]sheet.Rule{a}, n)...)
	}
	full := strings.Repeat("a{}", api.MostRules)
	check(t, full+"a{", slices.Repeat([]sheet.Rule{a}, api.MostRules)...)
	check(t, full+"/*a{}*/", slices.Repeat([]sheet.Rule{a}, api.MostRules)...)
	check(t, strings.Repeat("+{}", api.MostRules+1))
	for _, s := range []string{full + "a{}", "a{}" + full, full + full, full + "+{}a{}", full + "b{top:1px}"} {
		checkFull(t, s)
	}

	check(t, filled("", api.MostBytes))
	check(t, filled("a{}", api.MostBytes), a)
	check(t, filled("a{}/*", api.MostBytes), a)
	check(t, filled(full, api.MostBytes), slices.Repeat([]sheet.Rule{a}, api.MostRules)...)
	check(t, filled("a{order:1;", api.MostBytes-1)+"}", rule(t, "a", of(value.Order, api.Number, api.Unit)))
	// Remarks are bytes of it, too.
	for _, s := range []string{"", "a{}", "a{}/*", "/*", "+", full} {
		checkFull(t, filled(s, api.MostBytes+1))
	}
	checkFull(t, filled("/*", api.MostBytes-1)+"*/")
	checkFull(t, strings.Repeat("{", 1<<20))
}

// P10.3

// fresh is rules that may be.
func fresh(t *testing.T) []sheet.Rule {
	return []sheet.Rule{
		rule(t, "a.x > b, #i", px(value.Top, 1), strong(of(value.Color, api.Color, 0xff0000))[0]),
		rule(t, "*"),
		rule(t, ":visited", auto(value.Width)),
	}
}

const freshText = "a.x > b, #i { top: 1px; color: #ff0000 !important; }\n* { }\n:visited { width: auto; }\n"

func TestMayAndPrint(t *testing.T) {
	top := px(value.Top, 1)
	for _, c := range []struct {
		l    []sheet.Rule
		want string
	}{
		{nil, ""}, {[]sheet.Rule{}, ""}, {fresh(t), freshText}, {fresh(t)[1:2], "* { }\n"},
		{[]sheet.Rule{rule(t, "a", top)}, "a { top: 1px; }\n"}, {[]sheet.Rule{rule(t, "a", strong(top)...)}, "a { top: 1px !important; }\n"},
		{[]sheet.Rule{rule(t, "a,b,c", top, top)}, "a, b, c { top: 1px; top: 1px; }\n"}, {[]sheet.Rule{rule(t, "a"), rule(t, "a")}, "a { }\na { }\n"},
		{[]sheet.Rule{rule(t, strings.Repeat("a,", 19)+"a")}, strings.Repeat("a, ", 19) + "a { }\n"},
		{[]sheet.Rule{rule(t, "a", slices.Repeat([]sheet.Decl{top}, 60)...)}, "a {" + strings.Repeat(" top: 1px;", 60) + " }\n"},
		{slices.Repeat([]sheet.Rule{rule(t, "a")}, api.MostRules), strings.Repeat("a { }\n", api.MostRules)},
		// A text of more bytes than are read is told, too.
		{slices.Repeat([]sheet.Rule{rule(t, "a", slices.Repeat([]sheet.Decl{top}, 60)...)}, api.MostRules), strings.Repeat("a {"+strings.Repeat(" top: 1px;", 60)+" }\n", api.MostRules)},
	} {
		if got := sheet.Print(c.l); got != c.want || !sheet.May(c.l) {
			t.Errorf("Print(%v) = %q, want %q", c.l, got, c.want)
		}
	}
	for s, d := range one() {
		name, _, _ := strings.Cut(s, ":")
		text := name + ": " + value.Print(d.Prop, d.Value)
		l := []sheet.Rule{rule(t, "a", d, strong(d)[0])}
		if got := sheet.Print(l); got != "a { "+text+"; "+text+" !important; }\n" || !sheet.May(l) {
			t.Errorf("Print(%v) = %q", l, got)
		}
	}
}

// turns change rules that may be: into such as may be, too, or into such as may not.
func turns() map[string]struct {
	may  bool
	turn func(l []sheet.Rule)
} {
	type turn = struct {
		may  bool
		turn func(l []sheet.Rule)
	}
	wide := func(n int) []selector.Simple { return slices.Repeat([]selector.Simple{{Tag: "a"}}, n) }
	return map[string]turn{
		"no selectors":        {false, func(l []sheet.Rule) { l[0].Sels = nil }},
		"no selectors behind": {false, func(l []sheet.Rule) { l[2].Sels = []selector.Selector{} }},
		"a selector less":     {true, func(l []sheet.Rule) { l[0].Sels = l[0].Sels[:1] }},
		"a selector more":     {true, func(l []sheet.Rule) { l[0].Sels = append(l[0].Sels, l[0].Sels[0]) }},
		"selectors turned":    {true, func(l []sheet.Rule) { slices.Reverse(l[0].Sels) }},
		"21 selectors":        {false, func(l []sheet.Rule) { l[1].Sels = slices.Repeat(l[1].Sels, 21) }},
		"20 selectors":        {true, func(l []sheet.Rule) { l[1].Sels = slices.Repeat(l[1].Sels, 20) }},
		"an empty selector":   {false, func(l []sheet.Rule) { l[1].Sels[0] = selector.Selector{} }},
		"a last one empty":    {false, func(l []sheet.Rule) { l[0].Sels[1] = selector.Selector{} }},
		"a great letter":      {false, func(l []sheet.Rule) { l[0].Sels[0].Parts[1].Tag = "B" }},
		"another tag":         {true, func(l []sheet.Rule) { l[0].Sels[0].Parts[1].Tag = "c" }},
		"another class":       {true, func(l []sheet.Rule) { l[0].Sels[0].Parts[0].Classes[0] = "y" }},
		"another id":          {true, func(l []sheet.Rule) { l[0].Sels[1].Parts[0].Ids[0] = "j" }},
		"not close":           {true, func(l []sheet.Rule) { l[0].Sels[0].Close[0] = false }},
		"nothing close":       {false, func(l []sheet.Rule) { l[0].Sels[0].Close = nil }},
		"not visited":         {true, func(l []sheet.Rule) { l[2].Sels[0].Parts[0].Visited = false }},
		"link, too":           {true, func(l []sheet.Rule) { l[2].Sels[0].Parts[0].Link = true }},
		"9 parts":             {false, func(l []sheet.Rule) { l[1].Sels[0] = selector.Selector{Parts: wide(9), Close: make([]bool, 8)} }},
		"8 parts":             {true, func(l []sheet.Rule) { l[1].Sels[0] = selector.Selector{Parts: wide(8), Close: make([]bool, 7)} }},
		"no declarations":     {true, func(l []sheet.Rule) { l[0].Decls = nil }},
		"a declaration less":  {true, func(l []sheet.Rule) { l[0].Decls = l[0].Decls[:1] }},
		"a declaration more":  {true, func(l []sheet.Rule) { l[1].Decls = append(l[1].Decls, px(value.Top, 0)) }},
		"declarations turned": {true, func(l []sheet.Rule) { slices.Reverse(l[0].Decls) }},
		"60 declarations":     {true, func(l []sheet.Rule) { l[2].Decls = slices.Repeat(l[2].Decls, 60) }},
		"61 declarations":     {false, func(l []sheet.Rule) { l[2].Decls = slices.Repeat(l[2].Decls, 61) }},
		"strong":              {true, func(l []sheet.Rule) { l[0].Decls[0].Strong = true }},
		"not strong":          {true, func(l []sheet.Rule) { l[0].Decls[1].Strong = false }},
		"another number":      {true, func(l []sheet.Rule) { l[0].Decls[0].Value.N++ }},
		"a number too great":  {false, func(l []sheet.Rule) { l[0].Decls[1].Value.N = 1 << 24 }},
		"a number below 0":    {false, func(l []sheet.Rule) { l[0].Decls[1].Value.N = -1 }},
		"another kind":        {false, func(l []sheet.Rule) { l[2].Decls[0].Value.Kind = api.Color }},
		"no kind":             {false, func(l []sheet.Rule) { l[2].Decls[0].Value = api.Value{} }},
		"another property":    {true, func(l []sheet.Rule) { l[2].Decls[0].Prop = value.Height }},
		"one of another sort": {false, func(l []sheet.Rule) { l[0].Decls[0].Prop = value.Color }},
		"property 0":          {false, func(l []sheet.Rule) { l[0].Decls[0].Prop = 0 }},
		"property below 0":    {false, func(l []sheet.Rule) { l[0].Decls[1].Prop = -1 }},
		"property 27":         {false, func(l []sheet.Rule) { l[2].Decls[0].Prop = value.Many }},
		"an empty one":        {false, func(l []sheet.Rule) { l[1].Decls = make([]sheet.Decl, 1) }},
		"an empty rule":       {false, func(l []sheet.Rule) { l[1] = sheet.Rule{} }},
		"rules turned":        {true, func(l []sheet.Rule) { slices.Reverse(l) }},
		"a rule twice":        {true, func(l []sheet.Rule) { l[1] = l[0] }},
	}
}

func TestOneChange(t *testing.T) {
	if l := fresh(t); !sheet.Same(l, fresh(t)) || !sheet.May(l) {
		t.Error("fresh")
	}
	for what, c := range turns() {
		l := fresh(t)
		c.turn(l)
		if sheet.May(l) != c.may || (sheet.Print(l) != "") != c.may {
			t.Errorf("%s: May %v, Print %q", what, sheet.May(l), sheet.Print(l))
		}
		if sheet.Same(l, fresh(t)) || sheet.Same(fresh(t), l) || !sheet.Same(l, l) {
			t.Errorf("%s: is it the same?", what)
		}
		again := fresh(t)
		c.turn(again)
		if !sheet.Same(l, again) {
			t.Errorf("%s: twice, it isn't the same", what)
		}
	}
}

func TestMayNotAndSameOfMany(t *testing.T) {
	a := rule(t, "a")
	many := slices.Repeat([]sheet.Rule{a}, api.MostRules+1)
	if sheet.May(many) || sheet.Print(many) != "" {
		t.Errorf("May of too many rules")
	}
	if !sheet.Same(many, slices.Clone(many)) || sheet.Same(many, many[1:]) || sheet.Same(many[1:], many) {
		t.Errorf("Same of many rules")
	}
	many[40] = sheet.Rule{}
	if sheet.May(many[1:]) || sheet.Print(many[1:]) != "" {
		t.Errorf("May of a last rule that is empty")
	}
	// An empty list and none are one.
	for _, c := range [][2][]sheet.Rule{
		{nil, {}}, {{{}}, {{Sels: []selector.Selector{}, Decls: []sheet.Decl{}}}}, {{a}, {{Sels: a.Sels, Decls: []sheet.Decl{}}}},
	} {
		if !sheet.Same(c[0], c[1]) || !sheet.Same(c[1], c[0]) {
			t.Errorf("Same(%v, %v)", c[0], c[1])
		}
	}
	for _, l := range [][]sheet.Rule{{a}, {{}}, fresh(t)} {
		if sheet.Same(nil, l) || sheet.Same(l, nil) {
			t.Errorf("Same(nil, %v)", l)
		}
	}
}
