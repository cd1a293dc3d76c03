package show

import (
	"strings"
	"testing"

	"whittle/api"
	"whittle/parse"
	"whittle/set"
)

// reReadBack asks that an expression is written, and parsed as it was, and tells what was written.
func reReadBack(t *testing.T, r api.Re) string {
	t.Helper()
	s, e := Re(r)
	back, n, f := parse.Re(s)
	if e != api.OK || f != api.OK || n != len(s) || !alike(r, back) {
		t.Fatalf("P8.3: %s is written %.300q, %d, and that is parsed %s, %d, %d", told(r, 5), s, e, told(back, 5), n, f)
	}
	return s
}

// mapReadBack asks that a map is written, and parsed as it was, and tells what was written.
func mapReadBack(t *testing.T, m api.Map) string {
	t.Helper()
	s, e := Map(m)
	back, n, f := parse.Map(s)
	if e != api.OK || f != api.OK || n != len(s) || !alikeMaps(m, back) {
		t.Fatalf("P8.3: %s is written %.300q, %d, and that is parsed %s, %d, %d", toldMap(m, 5), s, e, toldMap(back, 5), n, f)
	}
	return s
}

// fileReadBack asks that items are written, and parsed as they were.
func fileReadBack(t *testing.T, l []api.Item) {
	t.Helper()
	s, e := File(l)
	back, n, f := parse.File(s)
	if e != api.OK || f != api.OK || n != len(s) || len(back) != len(l) {
		t.Fatalf("P8.3: %d items are written %.300q, %d, and that is parsed as %d, %d, %d", len(l), s, e, len(back), n, f)
	}
	for i := range l {
		if !alikeItems(l[i], back[i]) {
			t.Fatalf("P8.3: %v is written %.300q, and that is parsed %v", l[i], s, back[i])
		}
	}
	if strings.Count(s, "\n") != len(l) {
		t.Fatalf("P8.2: %d items are written %.300q", len(l), s)
	}
}

// pairs has all brackets of a text without quotes: where each begins and ends.
func pairs(s string) [][2]int {
	var out [][2]int
	var open []int
	for i := range len(s) {
		switch s[i] {
		case '(':
			open = append(open, i)
		case ')':
			out = append(out, [2]int{open[len(open)-1], i})
			open = open[:len(open)-1]
		}
	}
	return out
}

// without is a text without a pair of brackets.
func without(s string, pair [2]int) string {
	return s[:pair[0]] + " " + s[pair[0]+1:pair[1]] + " " + s[pair[1]+1:]
}

// TestAllExpressions: all of four levels, of a name and of what stands around one part or two, are parsed as they were; without a pair of brackets none is.
func TestAllExpressions(t *testing.T) {
	a := name("a")
	l := []api.Re{a}
	for range 3 {
		next := []api.Re{a}
		for _, x := range l {
			next = append(next, not(x), star(x))
			for _, y := range l {
				next = append(next, alt(x, y), and(x, y), cat(x, y))
			}
		}
		l = next
	}
	for _, r := range append(l, cat(a, a, a), alt(a, cat(a, a), a), and(a, alt(a, a), a)) {
		s := reReadBack(t, r)
		for _, pair := range pairs(s) {
			if back, _, e := parse.Re(without(s, pair)); e == api.OK && alike(back, r) {
				t.Fatalf("P8.1: %q needs no brackets at %d", s, pair[0])
			}
		}
	}
	if len(l) != 44166 {
		t.Errorf("%d expressions", len(l))
	}
}

// TestAllMaps: likewise.
func TestAllMaps(t *testing.T) {
	a := same(name("a"))
	l := []api.Map{a, out(name("b"), "q")}
	for range 2 {
		next := []api.Map{a, out(name("b"), "q")}
		for _, x := range l {
			next = append(next, mstar(x), mrep(x, 0, 1))
			for _, y := range l {
				next = append(next, malt(x, y), mcat(x, y), mcat(y, x, y))
			}
		}
		for _, m := range next {
			s := mapReadBack(t, m)
			for _, pair := range pairs(s) {
				if back, _, e := parse.Map(without(s, pair)); e == api.OK && alikeMaps(back, m) {
					t.Fatalf("P8.1: %q needs no brackets at %d", s, pair[0])
				}
			}
		}
		l = next
	}
}

// mixed answers a number below n, the next one of a row without an order.
func mixed(x *uint64, n int) int {
	*x = *x*6364136223846793005 + 1442695040888963407
	return int(*x >> 33 % uint64(n))
}

// mixedRe is an expression that is chosen without an order, of at most so many, one in the other.
func mixedRe(x *uint64, most int) api.Re {
	kind := 1 + mixed(x, 8)
	if most == 1 {
		kind = 1 + mixed(x, 3)
	}
	r := api.Re{Kind: kind}
	switch kind {
	case api.ReText:
		r.Text = []string{"", "a", "\x00\n\"(", "é", "def", strings.Repeat("\xff", 256)}[mixed(x, 6)]
	case api.ReSet:
		r.Set = []api.Set{{}, each, {1, 2, 3, 4}, set.Not(set.Of(']')), set.Span('!', '-'), {^uint64(0)}, {0, 1 << 33}}[mixed(x, 7)]
	case api.ReName:
		r.Text = []string{"a", "_b", "defs", "Rule", strings.Repeat("c", 31)}[mixed(x, 5)]
	case api.ReCat, api.ReAlt, api.ReAnd:
		for range 2 + mixed(x, 3) {
			r.Parts = append(r.Parts, mixedRe(x, most-1))
		}
	case api.ReNot, api.ReRep:
		r.Parts = []api.Re{mixedRe(x, most-1)}
	}
	if kind == api.ReRep {
		b := [][2]int{{0, -1}, {1, -1}, {0, 1}, {0, 0}, {3, 3}, {2, 64}, {64, 64}, {1, 1}, {0, 2}, {0, 64}}[mixed(x, 10)]
		r.Min, r.Max = b[0], b[1]
	}
	return r
}

// mixedMap is a map that is chosen without an order.
func mixedMap(x *uint64, most int) api.Map {
	m := api.Map{Kind: 1 + mixed(x, 5)}
	if most == 1 {
		m.Kind = 1 + mixed(x, 2)
	}
	switch m.Kind {
	case api.MapOut:
		m.Out = []string{"", "q", "\":\n", strings.Repeat("\x80", 256)}[mixed(x, 4)]
		fallthrough
	case api.MapSame:
		m.Re = mixedRe(x, 1)
	case api.MapCat, api.MapAlt:
		for range 2 + mixed(x, 3) {
			m.Parts = append(m.Parts, mixedMap(x, most-1))
		}
	case api.MapRep:
		m.Parts = []api.Map{mixedMap(x, most-1)}
		b := [][2]int{{0, -1}, {1, -1}, {0, 1}}[mixed(x, 3)]
		m.Min, m.Max = b[0], b[1]
	}
	return m
}

// mixedItem is an item that is chosen without an order.
func mixedItem(x *uint64) api.Item {
	n := []string{"a", "_x", "Map", strings.Repeat("n", 31)}[mixed(x, 4)]
	var it api.Item
	switch mixed(x, 5) {
	case 0:
		return def(n, mixedRe(x, 4))
	case 1:
		return mapItem(n, mixedMap(x, 4))
	case 2:
		return token(n, mixedRe(x, 4))
	case 3:
		it = ruleBy(mixedRe(x, 3), n)
	case 4:
		it = ruleOut(mixedRe(x, 3), []string{"", "q", "\"\x00", strings.Repeat("\n", 256)}[mixed(x, 4)])
	}
	if mixed(x, 2) == 0 {
		return around(it, mixedRe(x, 3), mixedRe(x, 3))
	}
	return it
}

// TestMixedReadBack: what is written is parsed as it was, be it of all kinds, and wide.
func TestMixedReadBack(t *testing.T) {
	x := uint64(81)
	for range 3000 {
		reReadBack(t, mixedRe(&x, 1+mixed(&x, 5)))
		mapReadBack(t, mixedMap(&x, 1+mixed(&x, 5)))
	}
	for i := range 300 {
		var l []api.Item
		for range i % 12 {
			l = append(l, mixedItem(&x))
		}
		fileReadBack(t, l)
	}
	fileReadBack(t, repeated(ruleOut(dot(), ""), 256))
}

// TestBoundsReadBack: so is what is as deep, and as long, as may be.
func TestBoundsReadBack(t *testing.T) {
	a := name("a")
	reReadBack(t, nested(a, 32, not))
	reReadBack(t, nested(a, 33, star))
	reReadBack(t, not(nested(a, 32, star)))
	reReadBack(t, nested(a, 16, func(r api.Re) api.Re { return star(not(r)) }))
	reReadBack(t, nested(a, 33, func(r api.Re) api.Re { return alt(a, and(a, cat(a, star(r)))) }))
	mapReadBack(t, nested(same(a), 33, mstar))
	mapReadBack(t, nested(malt(same(a), same(a)), 32, func(m api.Map) api.Map { return malt(m, same(a)) }))
	reReadBack(t, longRe(65536))
	mapReadBack(t, longMap(65536))
	fileReadBack(t, []api.Item{def("a", longRe(65536-len("def a = ;\n")))})
	fileReadBack(t, []api.Item{around(ruleOut(nested(a, 32, not), ""), nested(a, 33, star), not(nested(a, 32, star)))})
}

// sameAgain asks that a text that is parsed, and written, is parsed as the same, and tells whether it is parsed.
func sameAgain(t *testing.T, goal, s string) bool {
	t.Helper()
	switch goal {
	case "re":
		r, _, e := parse.Re(s)
		if e == api.OK {
			reReadBack(t, r)
		}
		return e == api.OK
	case "map":
		m, _, e := parse.Map(s)
		if e == api.OK {
			mapReadBack(t, m)
		}
		return e == api.OK
	}
	l, _, e := parse.File(s)
	if e == api.OK {
		fileReadBack(t, l)
	}
	return e == api.OK
}

// TestParsedAndWritten: all texts of a few tokens that can be parsed.
func TestParsedAndWritten(t *testing.T) {
	for _, x := range []struct {
		goal, ahead, tokens, behind string
		most                        int
	}{
		{"re", "", "a ( ) | & ! *", "", 6},
		{"re", "", `"x" [^] . + ? {0,1} {2}`, "", 4},
		{"re", "((a|", "b ) ! & (c*)", "", 6},
		{"map", "", `a ( ) | * :"q"`, "", 6},
		{"map", "(.|", `[b] "" ) + ? :"\n"`, "", 5},
		{"file", "", `def map token rule a = ;`, "", 5},
		{"file", "def a=(", "a ) | ( !", ";", 5},
		{"file", "map a=", `a ) | ( :""`, ";token b=(c);", 5},
		{"file", "rule ", `a -> "" / _ !`, ";", 6},
		{"file", "rule (a)->b", `a / _ ( )`, ";", 7},
	} {
		wholes := 0
		var walk func(s string, most int)
		walk = func(s string, most int) {
			if sameAgain(t, x.goal, s+x.behind) {
				wholes++
			}
			if most == 0 {
				return
			}
			for _, token := range strings.Fields(x.tokens) {
				walk(s+token+" ", most-1)
			}
		}
		walk(x.ahead, x.most)
		if wholes < 4 {
			t.Errorf("%q and so on: %d can be parsed", x.ahead, wholes)
		}
	}
}

// TestHardTexts: texts with more brackets, and more white, than are needed.
func TestHardTexts(t *testing.T) {
	for _, x := range [][2]string{
		{"re", "((((a))))"},
		{"re", "#\n(a|(b|(c)))&((d e)f)g{3,3}h{1}"},
		{"re", "(a{03,0003}|[^]{0001}) !(!((b)))#"},
		{"re", strings.Repeat("(", 32) + "a" + strings.Repeat(")", 32)},
		{"re", strings.Repeat("!", 32) + "a"},
		{"re", strings.Repeat("!(", 16) + "a|b" + strings.Repeat(")*", 16)},
		{"map", "((a:\"q\")((b)))?|(((c)))"},
		{"map", strings.Repeat("(", 32) + "a" + strings.Repeat(")", 32)},
		{"map", strings.Repeat("(", 32) + "a|b" + strings.Repeat(")+", 32)},
		{"file", " # none\n"},
		{"file", "def a=(b);map a=(b);token a=(b);rule (b)->a;rule b->\"a\"/((c))_((d|e));"},
		{"file", strings.Repeat("rule a->b;", 256)},
	} {
		if !sameAgain(t, x[0], x[1]) {
			t.Errorf("P7.1: %s %q is not parsed", x[0], x[1])
		}
	}
	// A text that is parsed may be too long when it is written.
	r, _, e := parse.Re("a" + strings.Repeat("|a", 32767))
	if e != api.OK {
		t.Fatalf("P7.1: %d", e)
	}
	fails(t, r, api.ErrLong)
}
