package parse

import (
	"fmt"
	"strings"
	"testing"
	"unsafe"

	"whittle/api"
	"whittle/lex"
	"whittle/set"
)

// each is the set of all bytes.
var each = api.Set{^uint64(0), ^uint64(0), ^uint64(0), ^uint64(0)}

// Expressions, as the document names their fields.
func text(s string) api.Re   { return api.Re{Kind: 1, Text: s} }
func some(b ...byte) api.Re  { return api.Re{Kind: 2, Set: set.Of(b...)} }
func dot() api.Re            { return api.Re{Kind: 2, Set: each} }
func name(s string) api.Re   { return api.Re{Kind: 3, Text: s} }
func cat(l ...api.Re) api.Re { return api.Re{Kind: 4, Parts: l} }
func alt(l ...api.Re) api.Re { return api.Re{Kind: 5, Parts: l} }
func and(l ...api.Re) api.Re { return api.Re{Kind: 6, Parts: l} }
func not(r api.Re) api.Re    { return api.Re{Kind: 7, Parts: []api.Re{r}} }
func star(r api.Re) api.Re   { return rep(r, 0, -1) }
func plus(r api.Re) api.Re   { return rep(r, 1, -1) }
func maybe(r api.Re) api.Re  { return rep(r, 0, 1) }
func rep(r api.Re, min, max int) api.Re {
	return api.Re{Kind: 8, Parts: []api.Re{r}, Min: min, Max: max}
}

// Maps, likewise.
func same(r api.Re) api.Map          { return api.Map{Kind: 1, Re: r} }
func out(r api.Re, s string) api.Map { return api.Map{Kind: 2, Re: r, Out: s} }
func mcat(l ...api.Map) api.Map      { return api.Map{Kind: 3, Parts: l} }
func malt(l ...api.Map) api.Map      { return api.Map{Kind: 4, Parts: l} }
func mrep(m api.Map, min, max int) api.Map {
	return api.Map{Kind: 5, Parts: []api.Map{m}, Min: min, Max: max}
}

// told is all of an expression; a list without elements is told alike, be it nil or not.
func told(r api.Re) string {
	var l []string
	for _, x := range r.Parts {
		l = append(l, told(x))
	}
	return fmt.Sprintf("<%d %q %s %d %d [%s]>", r.Kind, r.Text, lex.Set(r.Set), r.Min, r.Max, strings.Join(l, " "))
}

// toldMap is all of a map.
func toldMap(m api.Map) string {
	var l []string
	for _, x := range m.Parts {
		l = append(l, toldMap(x))
	}
	return fmt.Sprintf("{%d %s %q %d %d [%s]}", m.Kind, told(m.Re), m.Out, m.Min, m.Max, strings.Join(l, " "))
}

// toldFile is all of some items.
func toldFile(l []api.Item) string {
	var out []string
	for _, x := range l {
		out = append(out, fmt.Sprintf("(%d %q %s %s %q %q %t %s %s)", x.Kind, x.Name, told(x.Re), toldMap(x.Map), x.Out, x.By, x.Around, told(x.Left), told(x.Right)))
	}
	return strings.Join(out, "\n")
}

// rightRe asks for the expression of s, and tells if it isn't want.
func rightRe(t *testing.T, s string, want api.Re) {
	t.Helper()
	if r, n, e := Re(s); told(r) != told(want) || n != len(s) || e != api.OK {
		t.Errorf("P7.1: Re(%.300q): %.1000s, %d, %d, want %.1000s, %d, 0", s, told(r), n, e, told(want), len(s))
	}
}

// rightMap asks for the map of s, and tells if it isn't want.
func rightMap(t *testing.T, s string, want api.Map) {
	t.Helper()
	if m, n, e := Map(s); toldMap(m) != toldMap(want) || n != len(s) || e != api.OK {
		t.Errorf("P7.1: Map(%.300q): %.1000s, %d, %d, want %.1000s, %d, 0", s, toldMap(m), n, e, toldMap(want), len(s))
	}
}

// rightFile asks for the items of s, and tells if they aren't want.
func rightFile(t *testing.T, s string, want ...api.Item) {
	t.Helper()
	if l, n, e := File(s); toldFile(l) != toldFile(want) || n != len(s) || e != api.OK {
		t.Errorf("P7.1: File(%.300q): %.1000s, %d, %d, want %.1000s, %d, 0", s, toldFile(l), n, e, toldFile(want), len(s))
	}
}

// wrongRe asks for the expression of s, and tells if that isn't the error, with its place, and nothing else.
func wrongRe(t *testing.T, s string, place int, want api.Errno) {
	t.Helper()
	if r, n, e := Re(s); told(r) != told(api.Re{}) || n != place || e != want {
		t.Errorf("P7.1: Re(%.300q): %.300s, %d, %d, want none, %d, %d", s, told(r), n, e, place, want)
	}
}

// wrongMap asks for the map of s, and tells if that isn't the error, with its place, and nothing else.
func wrongMap(t *testing.T, s string, place int, want api.Errno) {
	t.Helper()
	if m, n, e := Map(s); toldMap(m) != toldMap(api.Map{}) || n != place || e != want {
		t.Errorf("P7.1: Map(%.300q): %.300s, %d, %d, want none, %d, %d", s, toldMap(m), n, e, place, want)
	}
}

// wrongFile asks for the items of s, and tells if that isn't the error, with its place, and nothing else.
func wrongFile(t *testing.T, s string, place int, want api.Errno) {
	t.Helper()
	if l, n, e := File(s); len(l) != 0 || n != place || e != want {
		t.Errorf("P7.1: File(%.300q): %.300s, %d, %d, want none, %d, %d", s, toldFile(l), n, e, place, want)
	}
}

func TestExample(t *testing.T) {
	rightRe(t, `"a" [b]* | !x`, alt(cat(text("a"), star(some('b'))), not(name("x"))))
}

func TestNothing(t *testing.T) {
	for _, s := range []string{"", " ", "\n", "#", "# a", "\t# def a = b;\n "} {
		wrongRe(t, s, len(s), api.ErrForm)
		wrongMap(t, s, len(s), api.ErrForm)
		rightFile(t, s)
	}
}

func TestAtoms(t *testing.T) {
	for _, x := range []struct {
		s    string
		want api.Re
	}{
		{`""`, text("")},
		{`"a"`, text("a")},
		{`"a\x00\n"`, text("a\x00\n")},
		{`"` + strings.Repeat("a", 256) + `"`, text(strings.Repeat("a", 256))},
		{"[a]", some('a')},
		{"[]", some()},
		{"[a-c]", some('a', 'b', 'c')},
		{"[^]", dot()},
		{".", dot()},
		{"a", name("a")},
		{"__", name("__")},
		{"_a", name("_a")},
		{strings.Repeat("z", 31), name(strings.Repeat("z", 31))},
		{"defs", name("defs")},
		{"Def", name("Def")},
		{"rules", name("rules")},
		{"to", name("to")},
		{`"def"`, text("def")},
		{`"_"`, text("_")},
	} {
		rightRe(t, x.s, x.want)
		rightRe(t, " "+x.s+"#", x.want)
		rightRe(t, "("+x.s+")", x.want)
		rightRe(t, "( (\n"+x.s+") )", x.want)
		rightMap(t, x.s, same(x.want))
		rightMap(t, "("+x.s+")", same(x.want))
		rightMap(t, x.s+`:"o"`, out(x.want, "o"))
	}
	for _, s := range []string{"def", "map", "token", "rule", "_", "7", "=", ";", ")", "|", "&", "*", "+", "?", "{", "}", ":", "/", ",", "~", ">", "->"} {
		wrongRe(t, s, 0, api.ErrForm)
		wrongMap(t, s, 0, api.ErrForm)
		wrongRe(t, " ("+s+")", 2, api.ErrForm)
		wrongMap(t, " ("+s+")", 2, api.ErrForm)
		wrongRe(t, "a|"+s, 2, api.ErrForm)
		wrongMap(t, "a|"+s, 2, api.ErrForm)
		wrongRe(t, "!"+s, 1, api.ErrForm)
	}
	for _, s := range []string{"def", "map", "token", "rule", "_", "7", "=", ";", ")", "}", ":", "/", ",", "~", ">", "->"} {
		wrongRe(t, "a "+s, 2, api.ErrForm)
		wrongRe(t, "a* "+s+" a", 3, api.ErrForm)
	}
}

func TestPartsOfExpressions(t *testing.T) {
	a, b, c := name("a"), name("b"), name("c")
	for _, x := range []struct {
		s    string
		want api.Re
	}{
		{"a|b", alt(a, b)},
		{"a|b|c", alt(a, b, c)},
		{"a&b", and(a, b)},
		{"a&b&c", and(a, b, c)},
		{"a b", cat(a, b)},
		{"a b c", cat(a, b, c)},
		{`a"b"[c].(a)!b`, cat(a, text("b"), some('c'), dot(), a, not(b))},
		{"a b|c", alt(cat(a, b), c)},
		{"a|b c", alt(a, cat(b, c))},
		{"a b&c", and(cat(a, b), c)},
		{"a&b c", and(a, cat(b, c))},
		{"a&b|c", alt(and(a, b), c)},
		{"a|b&c", alt(a, and(b, c))},
		{"a b&c|a", alt(and(cat(a, b), c), a)},
		{"(a|b)&c", and(alt(a, b), c)},
		{"(a|b)c", cat(alt(a, b), c)},
		{"(a&b)c", cat(and(a, b), c)},
		{"a(b c)", cat(a, cat(b, c))},
		{"(a b)c", cat(cat(a, b), c)},
		{"(a|b)|c", alt(alt(a, b), c)},
		{"a|(b|c)", alt(a, alt(b, c))},
		{"(a&b)&c", and(and(a, b), c)},
		{"(a|b)", alt(a, b)},
		{"!a", not(a)},
		{"!!a", not(not(a))},
		{"!a b", cat(not(a), b)},
		{"a !b c", cat(a, not(b), c)},
		{"!(a b)", not(cat(a, b))},
		{"!(a|b)", not(alt(a, b))},
		{"!a*", not(star(a))},
		{"(!a)*", star(not(a))},
		{"!a|b", alt(not(a), b)},
		{"!a&!b", and(not(a), not(b))},
		{"a*", star(a)},
		{"a+", plus(a)},
		{"a?", maybe(a)},
		{"a b*", cat(a, star(b))},
		{"a*b", cat(star(a), b)},
		{"(a b)*", star(cat(a, b))},
		{"(a*)*", star(star(a))},
		{"(a?)+", plus(maybe(a))},
		{".*", star(dot())},
		{`""+`, plus(text(""))},
		{"a*|b+|c?", alt(star(a), plus(b), maybe(c))},
	} {
		rightRe(t, x.s, x.want)
	}
	for _, x := range []struct {
		s  string
		at int
	}{
		{"|a", 0}, {"a|", 2}, {"a||b", 2}, {"a|&b", 2}, {"&a", 0}, {"a&", 2}, {"a&&b", 2}, {"a&|b", 2}, {"a&*", 2}, {"a|*", 2},
		{"!", 1}, {"!|a", 1}, {"!*", 1}, {"a!", 2}, {"a!|b", 2}, {"!!", 2},
		{"()", 1}, {"(", 1}, {")", 0}, {"(a", 2}, {"(a|", 3}, {"(a|)", 3}, {"a)", 1}, {"(a))", 3}, {"((a)", 4}, {"(a(", 3}, {"a()", 2},
		{"a;", 1}, {"a = b", 2}, {"a -> b", 2}, {"a / b", 2}, {"a _ b", 2}, {`a:"b"`, 1}, {"a,b", 1}, {"a 7", 2}, {"a~", 1}, {"a>", 1},
		{"*", 0}, {"*a", 0}, {"(*a)", 1}, {"a|b c d )", 8},
	} {
		wrongRe(t, x.s, x.at, api.ErrForm)
	}
}

func TestHowOften(t *testing.T) {
	marks := []struct {
		s        string
		min, max int
	}{{"*", 0, -1}, {"+", 1, -1}, {"?", 0, 1}, {"{0}", 0, 0}, {"{1}", 1, 1}, {"{3}", 3, 3}, {"{64}", 64, 64}, {"{0,0}", 0, 0}, {"{0,1}", 0, 1}, {"{1,1}", 1, 1}, {"{2,3}", 2, 3}, {"{0,64}", 0, 64}, {"{63,64}", 63, 64}, {"{64,64}", 64, 64}, {"{0002,0064}", 2, 64}, {"{ 1 , 2 }", 1, 2}, {"{1 #\n,2}", 1, 2}}
	for _, x := range marks {
		rightRe(t, "a"+x.s, rep(name("a"), x.min, x.max))
		rightRe(t, "a "+x.s+" b", cat(rep(name("a"), x.min, x.max), name("b")))
		rightRe(t, "(a|b)"+x.s, rep(alt(name("a"), name("b")), x.min, x.max))
		rightRe(t, "!."+x.s, not(rep(dot(), x.min, x.max)))
		for _, y := range marks {
			wrongRe(t, "a"+x.s+y.s, 1+len(x.s), api.ErrForm)
			rightRe(t, "(a"+x.s+")"+y.s, rep(rep(name("a"), x.min, x.max), y.min, y.max))
		}
	}
	for n := range 70 {
		s := fmt.Sprintf("a{%d}", n)
		if n <= 64 {
			rightRe(t, s, rep(name("a"), n, n))
		} else {
			wrongRe(t, s, 2, api.ErrForm)
			wrongRe(t, fmt.Sprintf("a{%d,64}", n), 2, api.ErrForm)
			wrongRe(t, fmt.Sprintf("a{%d,%d}", n, n), 2, api.ErrForm)
		}
		for m := range 70 {
			s := fmt.Sprintf("a{ %d,%d}", n, m)
			switch {
			case n > 64:
				wrongRe(t, s, 3, api.ErrForm)
			case m > 64 || m < n:
				wrongRe(t, s, strings.Index(s, ",")+1, api.ErrForm)
			default:
				rightRe(t, s, rep(name("a"), n, m))
			}
		}
	}
	for _, x := range []struct {
		s  string
		at int
	}{
		{"a{", 2}, {"a{}", 2}, {"a{a}", 2}, {"a{,2}", 2}, {"a{2", 3}, {"a{2a}", 3}, {"a{2,", 4}, {"a{2,}", 4}, {"a{2,b}", 4}, {"a{2,,3}", 4}, {"a{2,3", 5}, {"a{2,3,4}", 5}, {"a{2 3}", 4}, {"a{2)", 3}, {"{2}", 0}, {"a|{2}", 2}, {"a{9999}", 2}, {"a{0065}", 2}, {"a{*}", 2}, {"a}", 1}, {"a{2}}", 4}, {"a{_}", 2},
	} {
		wrongRe(t, x.s, x.at, api.ErrForm)
	}
	// A number of five digits is no token.
	wrongRe(t, "a{65}{00001}", 6, api.ErrLong)
}

// inner writes an expression, or a map, within brackets and ! .
func inner(fronts, s string) string {
	return fronts + s + strings.Repeat(")", strings.Count(fronts, "("))
}

// innerRe is what that says.
func innerRe(fronts string, r api.Re) api.Re {
	for i := len(fronts) - 1; i >= 0; i-- {
		if fronts[i] == '!' {
			r = not(r)
		}
	}
	return r
}

func TestDepth(t *testing.T) {
	fronts := []string{strings.Repeat("(", 32), strings.Repeat("!", 32), strings.Repeat("!(", 16), strings.Repeat("(!", 16), strings.Repeat("(", 31) + "!", "!" + strings.Repeat("(", 31), strings.Repeat("(!!", 10) + "!(", strings.Repeat("!", 16) + strings.Repeat("(", 16)}
	for _, f := range fronts {
		rightRe(t, inner(f, "a"), innerRe(f, name("a")))
		rightRe(t, inner(f[1:], "(a)"), innerRe(f[1:], name("a")))
		rightRe(t, inner(f[1:], "!a"), innerRe(f[1:], not(name("a"))))
		for _, deep := range []string{"(a)", "!a", "(", "!", "()", "(!", "!*", "((((", "!!!!", "(a) ;"} {
			wrongRe(t, inner(f, deep), 32, api.ErrDeep)
			wrongRe(t, f+" "+deep, 33, api.ErrDeep)
			wrongRe(t, "a|"+inner(f, deep), 34, api.ErrDeep)
			wrongRe(t, "(a) !a "+inner(f, deep), 39, api.ErrDeep)
		}
		// What is no ( and no ! is as wrong there as elsewhere, and what is wrong ahead is told.
		wrongRe(t, inner(f, "|"), 32, api.ErrForm)
		wrongRe(t, inner(f, "a*{("), 34, api.ErrForm)
		wrongRe(t, inner(f, "a{("), 34, api.ErrForm)
		wrongRe(t, "|"+inner(f, "(a)"), 0, api.ErrForm)
		wrongRe(t, f, 32, api.ErrForm)
		// Those that were left count no more.
		rightRe(t, inner(f, "a")+"|"+inner(f, "b"), alt(innerRe(f, name("a")), innerRe(f, name("b"))))
		if strings.HasSuffix(f, "(") {
			rightRe(t, inner(f[1:], "(a)(b)"), innerRe(f[1:], cat(name("a"), name("b"))))
		}
	}
	// Behind an expression that is ! of another one, its ! is none that the next token stands within.
	f := strings.Repeat("(", 31)
	rightRe(t, inner(f, "!a!b"), cat(not(name("a")), not(name("b"))))
	rightRe(t, inner(f, "!a*(b)"), cat(not(star(name("a"))), name("b")))
	wrongRe(t, inner(f, "!(a)"), 32, api.ErrDeep)
	rightRe(t, strings.Repeat("(a)", 100), cat(repeated(name("a"), 100)...))
	rightRe(t, strings.Repeat("!a", 100), cat(repeated(not(name("a")), 100)...))
	// Maps.
	f = strings.Repeat("(", 32)
	rightMap(t, inner(f, "a"), same(name("a")))
	rightMap(t, inner(f, "a")+inner(f, "b"), mcat(same(name("a")), same(name("b"))))
	for _, deep := range []string{"(a)", "(", "()", "((("} {
		wrongMap(t, inner(f, deep), 32, api.ErrDeep)
		wrongMap(t, "a|"+inner(f, deep), 34, api.ErrDeep)
		wrongMap(t, inner(f, "a"+deep), 33, api.ErrDeep)
	}
	wrongMap(t, inner(f, "!"), 32, api.ErrForm)
	wrongMap(t, inner(f, "a:("), 34, api.ErrForm)
	// Each expression of a file begins anew.
	d, m := inner(f, "a"), api.Item{Kind: 2, Name: "m", Map: same(name("a"))}
	r := api.Item{Kind: 3, Re: name("a"), Out: "b", Around: true, Left: name("a"), Right: name("a")}
	rightFile(t, "map m="+d+";rule "+d+"->\"b\"/"+d+"_"+d+";map m="+d+";", m, r, m)
	wrongFile(t, "map m="+d+";map m=("+d+");", 72+38, api.ErrDeep)
	wrongFile(t, "rule "+d+"->b/"+d+"_!"+d+";", 5+65+4+65+1+32, api.ErrDeep)
}

// repeated is a list of the same, so often.
func repeated(r api.Re, n int) []api.Re {
	var l []api.Re
	for range n {
		l = append(l, r)
	}
	return l
}

func TestMaps(t *testing.T) {
	a, b, c := same(name("a")), out(name("b"), "x"), out(dot(), "")
	for _, x := range []struct {
		s    string
		want api.Map
	}{
		{"a", a},
		{`b:"x"`, b},
		{`.:""`, c},
		{`"p":"q"`, out(text("p"), "q")},
		{`[p] : "q\n"`, out(some('p'), "q\n")},
		{`a|b:"x"`, malt(a, b)},
		{`a|b:"x"|.:""`, malt(a, b, c)},
		{`a b:"x"`, mcat(a, b)},
		{`b:"x"a`, mcat(b, a)},
		{`a b:"x".:""`, mcat(a, b, c)},
		{`a "b"`, mcat(a, same(text("b")))},
		{`a:"b" "c"`, mcat(out(name("a"), "b"), same(text("c")))},
		{`a b:"x"|.:""`, malt(mcat(a, b), c)},
		{`a|b:"x".:""`, malt(a, mcat(b, c))},
		{`(a|b:"x").:""`, mcat(malt(a, b), c)},
		{`(a b:"x").:""`, mcat(mcat(a, b), c)},
		{`a(b:"x" .:"")`, mcat(a, mcat(b, c))},
		{`a|(a|a)`, malt(a, malt(a, a))},
		{"a*", mrep(a, 0, -1)},
		{"a+", mrep(a, 1, -1)},
		{"a?", mrep(a, 0, 1)},
		{`b:"x"*`, mrep(b, 0, -1)},
		{`b:"x"+`, mrep(b, 1, -1)},
		{`b:"x"?`, mrep(b, 0, 1)},
		{`(b:"x")*`, mrep(b, 0, -1)},
		{`(a|b:"x")+`, mrep(malt(a, b), 1, -1)},
		{`(a b:"x")?`, mrep(mcat(a, b), 0, 1)},
		{"(a*)*", mrep(mrep(a, 0, -1), 0, -1)},
		{"a*a?", mcat(mrep(a, 0, -1), mrep(a, 0, 1))},
		{"(a)", a},
		{`(((b:"x")))`, b},
	} {
		rightMap(t, x.s, x.want)
		rightMap(t, "("+x.s+")", x.want)
		rightFile(t, "map m="+x.s+";", api.Item{Kind: 2, Name: "m", Map: x.want})
	}
	for _, x := range []struct {
		s  string
		at int
	}{
		{"|a", 0}, {"a|", 2}, {"a||a", 2}, {"a&a", 1}, {"!a", 0}, {"a!a", 1}, {"(!a)", 1}, {"()", 1}, {"(", 1}, {"(a", 2}, {"a)", 1}, {"(a))", 3},
		{"a{2}", 1}, {"a{2,3}", 1}, {"a**", 2}, {"a*+", 2}, {"a+?", 2}, {"a??", 2}, {`a:"b"**`, 6}, {"(a)**", 4},
		{"a:", 2}, {"a:b", 2}, {"a:[b]", 2}, {"a:.", 2}, {"a:(\"b\")", 2}, {`:"a"`, 0}, {`a::"b"`, 2}, {`a:"b":"c"`, 5}, {`(a):"b"`, 3}, {`a*:"b"`, 2}, {`a b|:"b"`, 4}, {"a:7", 2}, {"a:def", 2}, {`a:*"b"`, 2},
		{"*a", 0}, {"a;", 1}, {"a=a", 1}, {"a->a", 1}, {"a def", 2}, {"a _", 2}, {"_:\"a\"", 0}, {"def", 0}, {"map", 0}, {"token", 0}, {"rule", 0},
	} {
		wrongMap(t, x.s, x.at, api.ErrForm)
		if x.s != "a;" {
			wrongFile(t, "map m="+x.s, 6+x.at, api.ErrForm)
		}
	}
}

func TestItems(t *testing.T) {
	a, b, c := name("a"), text("b"), some('c')
	for _, x := range []struct {
		s    string
		want api.Item
	}{
		{"def d = a;", api.Item{Kind: 1, Name: "d", Re: a}},
		{`def d = a "b"|[c];`, api.Item{Kind: 1, Name: "d", Re: alt(cat(a, b), c)}},
		{"map m = a;", api.Item{Kind: 2, Name: "m", Map: same(a)}},
		{`map m = (a:"b")*;`, api.Item{Kind: 2, Name: "m", Map: mrep(out(a, "b"), 0, -1)}},
		{"token t = [c]+;", api.Item{Kind: 4, Name: "t", Re: plus(c)}},
		{`rule a -> "b";`, api.Item{Kind: 3, Re: a, Out: "b"}},
		{`rule a -> "";`, api.Item{Kind: 3, Re: a}},
		{"rule a -> m;", api.Item{Kind: 3, Re: a, By: "m"}},
		{`rule a -> "o" / "b" _ [c];`, api.Item{Kind: 3, Re: a, Out: "o", Around: true, Left: b, Right: c}},
		{`rule a -> "" / "" _ "";`, api.Item{Kind: 3, Re: a, Around: true, Left: text(""), Right: text("")}},
		{`rule a -> m / "b" _ [c];`, api.Item{Kind: 3, Re: a, By: "m", Around: true, Left: b, Right: c}},
		{`rule !a&"b" -> defs/a "b"|[c]_[c]|a "b";`, api.Item{Kind: 3, Re: and(not(a), b), By: "defs", Around: true, Left: alt(cat(a, b), c), Right: alt(c, cat(a, b))}},
	} {
		rightFile(t, x.s, x.want)
		rightFile(t, x.s+"#\n"+x.s, x.want, x.want)
		rightFile(t, "def x = .;"+x.s+"token y=.;", api.Item{Kind: 1, Name: "x", Re: dot()}, x.want, api.Item{Kind: 4, Name: "y", Re: dot()})
		endsEarly(t, x.s)
		wordsAsNames(t, x.s)
		for _, behind := range []string{";", "a", "_", "=", "(", "7", "->", "\"\"", "[]", "~", "*"} {
			wrongFile(t, x.s+behind, len(x.s), api.ErrForm)
			wrongFile(t, x.s+" "+behind+" "+x.s, len(x.s)+1, api.ErrForm)
		}
	}
}

// endsEarly cuts an item behind each of its tokens but the last one, and puts what cannot stand there in place of each.
func endsEarly(t *testing.T, s string) {
	t.Helper()
	toks, _, _ := lex.All(s)
	for i, tok := range toks {
		if i > 0 {
			front := s[:tok.At]
			wrongFile(t, front, len(front), api.ErrForm)
			wrongFile(t, "def x=y;"+front+"#", 8+len(front)+1, api.ErrForm)
		}
		wrongFile(t, s[:tok.At]+"~"+s[tok.At:], tok.At, api.ErrForm)
		wrongFile(t, s[:tok.At]+"~", tok.At, api.ErrForm)
		if i > 0 {
			wrongFile(t, s[:tok.At]+" token", tok.At+1, api.ErrForm)
		}
	}
}

// wordsAsNames puts each word of the grammar in place of each NAME of an item.
func wordsAsNames(t *testing.T, s string) {
	t.Helper()
	toks, _, _ := lex.All(s)
	for i, tok := range toks {
		if i == 0 || tok.Kind != api.TokName || tok.Text == "_" {
			continue
		}
		for _, w := range []string{"def", "map", "token", "rule", "_"} {
			wrongFile(t, s[:tok.At]+w+s[tok.At+len(tok.Text):], tok.At, api.ErrForm)
		}
		for _, n := range []string{"defs", "_a", "Rule", "__"} {
			if _, k, e := File(s[:tok.At] + n + s[tok.At+len(tok.Text):]); e != api.OK {
				t.Errorf("P7.1: %q with the name %q: %d, %d", s, n, k, e)
			}
		}
	}
}

func TestWrongItems(t *testing.T) {
	for _, x := range []struct {
		s  string
		at int
	}{
		{"a", 0}, {"a = b;", 0}, {";", 0}, {"_", 0}, {"=", 0}, {"defs a = b;", 0}, {"\"def\" a = b;", 0}, {"def a = b;;", 10},
		{"def", 3}, {"def = b;", 4}, {"def \"a\" = b;", 4}, {"def 7 = b;", 4}, {"def a", 5}, {"def a b;", 6}, {"def a : b;", 6}, {"def a == b;", 7}, {"def a = ;", 8}, {"def a = b", 9}, {"def a = b c = d;", 12}, {"def a = b def c = d;", 10}, {"def a = b -> c;", 10}, {"def a = b / c;", 10}, {"def a = b _ c;", 10}, {"def a = b : \"c\";", 10},
		{"token a = b:\"c\";", 11}, {"token a -> b;", 8}, {"token token = a;", 6},
		{"map a -> b;", 6}, {"map a = b & c;", 10}, {"map a = b{2};", 9}, {"map map = a;", 4}, {"map a = b : c;", 12},
		{"rule;", 4}, {"rule -> a;", 5}, {"rule a = b;", 7}, {"rule a;", 6}, {"rule a ->;", 9}, {"rule a -> [b];", 10}, {"rule a -> .;", 10}, {"rule a -> (b);", 10}, {"rule a -> _;", 10}, {"rule a -> 7;", 10}, {"rule a -> b c;", 12}, {"rule a -> b \"c\";", 12}, {"rule a -> \"b\" \"c\";", 14}, {"rule a -> b*;", 11}, {"rule a -> b -> c;", 12}, {"rule a -> b:\"c\";", 11},
		{"rule a -> b /;", 13}, {"rule a -> b / _ c;", 14}, {"rule a -> b / c;", 15}, {"rule a -> b / c _;", 17}, {"rule a -> b / c _ _;", 18}, {"rule a -> b / c _ d _ e;", 20}, {"rule a -> b / c _ d / e;", 20}, {"rule a -> b // c _ d;", 13}, {"rule a / c _ d -> b;", 7}, {"rule a -> / c _ d;", 10}, {"rule _ -> b;", 5}, {"rule a -> b / c | _ d;", 18}, {"rule a -> b / c __ d;", 20},
		{"rule def -> b;", 5}, {"rule a -> def;", 10}, {"rule a -> b / rule _ c;", 14}, {"rule a -> b / c _ token;", 18},
	} {
		wrongFile(t, x.s, x.at, api.ErrForm)
		wrongFile(t, "token t = \"\" ; # x\n"+x.s, 19+x.at, api.ErrForm)
	}
	// An item's name may be one that others have: that is not asked here.
	rightFile(t, "def a = a; def a = a;", api.Item{Kind: 1, Name: "a", Re: name("a")}, api.Item{Kind: 1, Name: "a", Re: name("a")})
}

func TestManyItems(t *testing.T) {
	one := "def a=b;"
	for _, n := range []int{1, 2, 255, 256} {
		l, k, e := File(strings.Repeat(one, n))
		if len(l) != n || k != 8*n || e != api.OK {
			t.Fatalf("P7.1: %d items: %d, %d, %d", n, len(l), k, e)
		}
		for _, x := range l {
			if toldFile([]api.Item{x}) != toldFile([]api.Item{{Kind: 1, Name: "a", Re: name("b")}}) {
				t.Fatalf("P7.1: one of %d items: %s", n, toldFile([]api.Item{x}))
			}
		}
	}
	many := strings.Repeat(one, 256)
	for _, behind := range []string{one, "def", "x", ";", "_", "def def", "rule", "map m = !a;", "=", "7", "~", one + one, "(", "\"\"", "[a]"} {
		wrongFile(t, many+behind, 2048, api.ErrLong)
		wrongFile(t, many+" #\n"+behind, 2051, api.ErrLong)
	}
	rightFile(t, many+" # \n", repeatedItems(256)...)
	// What is wrong ahead is told, and what layer 6 tells is told ahead of all.
	wrongFile(t, strings.Repeat(one, 255)+"def a=;"+one, 2046, api.ErrForm)
	wrongFile(t, strings.Repeat(one, 255)+"def a=b", 2047, api.ErrForm)
	wrongFile(t, strings.Repeat(one, 255)+"x"+one, 2040, api.ErrForm)
	wrongFile(t, many+one+"%", 2056, api.ErrForm)
	wrongFile(t, many+"\"", 2048, api.ErrMore)
	// The bound is one of items alone.
	s := strings.Repeat("a|", 257) + "a"
	rightRe(t, s, alt(repeated(name("a"), 258)...))
}

// repeatedItems is a list of the same definition, so often.
func repeatedItems(n int) []api.Item {
	var l []api.Item
	for range n {
		l = append(l, api.Item{Kind: 1, Name: "a", Re: name("b")})
	}
	return l
}

// TestWrongTokens: what layer 6 tells is told first, wherever it stands.
func TestWrongTokens(t *testing.T) {
	for _, x := range []struct {
		s  string
		at int
		e  api.Errno
	}{
		{"%", 0, api.ErrForm}, {"a %", 2, api.ErrForm}, {"a -", 2, api.ErrForm}, {"a \"", 2, api.ErrMore}, {"a [b", 2, api.ErrMore}, {"a [c-b]", 2, api.ErrForm}, {"a 12345", 2, api.ErrLong}, {strings.Repeat("a", 32), 0, api.ErrLong}, {"a \"" + strings.Repeat("b", 257) + "\"", 2, api.ErrLong},
		// Behind one that is wrong here.
		{"| \"", 2, api.ErrMore}, {"a ) -", 4, api.ErrForm}, {"; 12345", 2, api.ErrLong}, {"a**%", 3, api.ErrForm}, {"a{65} [", 6, api.ErrMore}, {"def \"\\a\"", 4, api.ErrForm},
		{strings.Repeat("(", 33) + "\"", 33, api.ErrMore}, {strings.Repeat("!", 40) + "%", 40, api.ErrForm},
		{"% \"", 0, api.ErrForm},
	} {
		wrongRe(t, x.s, x.at, x.e)
		wrongMap(t, x.s, x.at, x.e)
		wrongFile(t, x.s, x.at, x.e)
		wrongFile(t, "def a = b; "+x.s, 11+x.at, x.e)
	}
}

func TestLongTexts(t *testing.T) {
	for _, n := range []int{65535, 65536} {
		blank := strings.Repeat(" ", n)
		wrongRe(t, blank, n, api.ErrForm)
		wrongMap(t, blank, n, api.ErrForm)
		rightFile(t, blank)
		rightRe(t, blank[1:]+"a", name("a"))
		rightMap(t, "a"+blank[1:], same(name("a")))
		rightFile(t, blank[8:]+"def a=b;", api.Item{Kind: 1, Name: "a", Re: name("b")})
		wrongRe(t, blank[1:]+")", n-1, api.ErrForm)
		rightRe(t, strings.Repeat(".", n), cat(repeated(dot(), n)...))
		rightMap(t, strings.Repeat(".", n), mcat(repeatedMaps(same(dot()), n)...))
	}
	for _, n := range []int{65537, 65538, 1 << 20} {
		for _, s := range []string{" ", ".", "(", ")", "%", "\"", "#"} {
			wrongRe(t, strings.Repeat(s, n), 0, api.ErrLong)
			wrongMap(t, strings.Repeat(s, n), 0, api.ErrLong)
			wrongFile(t, strings.Repeat(s, n), 0, api.ErrLong)
		}
		wrongFile(t, "def a=b;"+strings.Repeat(" ", n-8), 0, api.ErrLong)
	}
}

// repeatedMaps is a list of the same, so often.
func repeatedMaps(m api.Map, n int) []api.Map {
	var l []api.Map
	for range n {
		l = append(l, m)
	}
	return l
}

// TestWholeFile: items of all kinds, with places that stand as they are written.
func TestWholeFile(t *testing.T) {
	s := "# names\ndef d = [0-9]; def e=d+ ;\nmap up = [a]:\"A\" | [b]:\"B\"; # two\n\nrule [ab] -> up / \"\" _ e;\nrule \" \"->\"\\n\";token t = .;token d = d;\n"
	rightFile(t, s,
		api.Item{Kind: 1, Name: "d", Re: some([]byte("0123456789")...)},
		api.Item{Kind: 1, Name: "e", Re: plus(name("d"))},
		api.Item{Kind: 2, Name: "up", Map: malt(out(some('a'), "A"), out(some('b'), "B"))},
		api.Item{Kind: 3, Re: some('a', 'b'), By: "up", Around: true, Left: text(""), Right: name("e")},
		api.Item{Kind: 3, Re: text(" "), Out: "\n"},
		api.Item{Kind: 4, Name: "t", Re: dot()},
		api.Item{Kind: 4, Name: "d", Re: name("d")})
	wrongFile(t, s+"token", len(s)+5, api.ErrForm)
	wrongRe(t, s, 8, api.ErrForm)
	wrongMap(t, s, 8, api.ErrForm)
}

// textsOf has all texts and names of an expression.
func textsOf(r api.Re) []string {
	l := []string{r.Text}
	for _, x := range r.Parts {
		l = append(l, textsOf(x)...)
	}
	return l
}

// TestAnswersAreNew: an answer is no part of the text that was handed in, nor of another answer.
func TestAnswersAreNew(t *testing.T) {
	s := strings.Repeat("rule abc \"def\" (ghi|jkl) -> mno / pqr _ stu;", 3)
	from := uintptr(unsafe.Pointer(unsafe.StringData(s)))
	l, _, _ := File(s)
	if len(l) != 3 {
		t.Fatalf("R2: %d items", len(l))
	}
	for _, x := range l {
		for _, y := range append(append(append(textsOf(x.Re), textsOf(x.Left)...), textsOf(x.Right)...), x.By) {
			at := uintptr(unsafe.Pointer(unsafe.StringData(y)))
			if y != "" && at >= from && at < from+uintptr(len(s)) {
				t.Errorf("R2: %q is a piece of the text", y)
			}
		}
	}
	want := toldFile(l)
	again, _, _ := File(s)
	spoil(again[0].Re.Parts)
	again[1] = api.Item{}
	if got, _, _ := File(s); toldFile(got) != want || toldFile(l) != want {
		t.Errorf("R2: %s and %s, want %s", toldFile(got), toldFile(l), want)
	}
}

// spoil writes over a list, and over the room behind it, which no other list has.
func spoil(l []api.Re) {
	l = l[:cap(l)]
	for i := range l {
		spoil(l[i].Parts)
		l[i] = api.Re{Kind: 1, Text: "else"}
	}
}

// TestListsAreApart: no two lists of one answer share memory, nor spare room.
func TestListsAreApart(t *testing.T) {
	for _, s := range []string{"(a b c)(a b c)(a b c)", "(a|b c d)&(a|b|c d e)|(a b c)", "!a!(b b b)((c c c){3})*"} {
		r, _, _ := Re(s)
		for i := range r.Parts {
			other, _, _ := Re(s)
			want := make([]string, len(other.Parts))
			for j := range other.Parts {
				want[j] = told(other.Parts[j])
			}
			spoil(other.Parts[i].Parts)
			for j := range other.Parts {
				if j != i && told(other.Parts[j]) != want[j] {
					t.Errorf("R2: %q: part %d shares memory with part %d", s, j, i)
				}
			}
		}
	}
}
