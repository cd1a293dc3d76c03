package show

import (
	"fmt"
	"math"
	"slices"
	"strings"
	"testing"

	"whittle/api"
	"whittle/lex"
	"whittle/parse"
	"whittle/set"
)

// each is the set of all bytes.
var each = api.Set{^uint64(0), ^uint64(0), ^uint64(0), ^uint64(0)}

// Expressions, as the document names their fields.
func text(s string) api.Re   { return api.Re{Kind: 1, Text: s} }
func some(b ...byte) api.Re  { return api.Re{Kind: 2, Set: set.Of(b...)} }
func dot() api.Re            { return api.Re{Kind: 2, Set: each} }
func name(s string) api.Re   { return api.Re{Kind: 3, Text: s} }
func cat(l ...api.Re) api.Re { return api.Re{Kind: 4, Parts: l} }
func alt(l ...api.Re) api.Re { return api.Re{Kind: 5, Parts: l} }
func and(l ...api.Re) api.Re { return api.Re{Kind: 6, Parts: l} }
func not(r api.Re) api.Re    { return api.Re{Kind: 7, Parts: []api.Re{r}} }
func star(r api.Re) api.Re   { return rep(r, 0, -1) }
func rep(r api.Re, min, max int) api.Re {
	return api.Re{Kind: 8, Parts: []api.Re{r}, Min: min, Max: max}
}

// alike: do two expressions say the same, field by field? A list without elements may be nil or not.
func alike(r, s api.Re) bool {
	return r.Kind == s.Kind && r.Text == s.Text && r.Set == s.Set && r.Min == s.Min && r.Max == s.Max && slices.EqualFunc(r.Parts, s.Parts, alike)
}

// told is an expression, down to so many levels.
func told(r api.Re, most int) string {
	if most == 0 {
		return ".."
	}
	var l []string
	for _, x := range r.Parts[:min(len(r.Parts), 3)] {
		l = append(l, told(x, most-1))
	}
	return fmt.Sprintf("<%d %.40q %s %d %d %d [%s]>", r.Kind, r.Text, lex.Set(r.Set), r.Min, r.Max, len(r.Parts), strings.Join(l, " "))
}

// writes asks for the text of an expression, and tells if it isn't want.
func writes(t *testing.T, r api.Re, want string) {
	t.Helper()
	if s, e := Re(r); s != want || e != api.OK {
		t.Errorf("P8.1: Re(%s): %.300q, %d, want %.300q", told(r, 4), s, e, want)
	}
}

// fails asks for the text of an expression, and tells if that isn't the error, and nothing else.
func fails(t *testing.T, r api.Re, want api.Errno) {
	t.Helper()
	if s, e := Re(r); s != "" || e != want {
		t.Errorf("P8.1: Re(%s): %.300q, %d, want none, %d", told(r, 4), s, e, want)
	}
}

// nested is something, wrapped so often.
func nested[T any](x T, n int, wrap func(T) T) T {
	for range n {
		x = wrap(x)
	}
	return x
}

// repeated is a list of something, so often.
func repeated[T any](x T, n int) []T {
	return slices.Repeat([]T{x}, n)
}

func TestExample(t *testing.T) {
	writes(t, alt(cat(text("a"), star(some('b'))), not(name("x"))), `"a" [b]* | !x`)
}

func TestPlainExpressions(t *testing.T) {
	for _, x := range []struct {
		r    api.Re
		want string
	}{
		{text(""), `""`},
		{text("a"), `"a"`},
		{text(" a b!(|)* "), `" a b!(|)* "`},
		{text("\\\"[]^-"), `"\\\"\[\]\^\-"`},
		{text("\n\t\r\x00\x1f\x7f\xff"), `"\n\t\r\x00\x1f\x7f\xff"`},
		{text("é"), `"\xc3\xa9"`},
		{text("def"), `"def"`},
		{text(strings.Repeat("a", 256)), `"` + strings.Repeat("a", 256) + `"`},
		{text(strings.Repeat("\x00", 256)), `"` + strings.Repeat(`\x00`, 256) + `"`},
		{some(), "[]"},
		{some('a'), "[a]"},
		{some(0), `[\x00]`},
		{some(255), `[\xff]`},
		{some('.'), "[.]"},
		{some('a', 'b', 'c', 'e'), "[a-ce]"},
		{some('-', ']'), `[\-\]]`},
		{api.Re{Kind: 2, Set: set.Not(set.Of('a'))}, "[^a]"},
		{api.Re{Kind: 2, Set: set.Not(set.Of(0))}, `[^\x00]`},
		{api.Re{Kind: 2, Set: set.Not(set.Of(255))}, `[^\xff]`},
		{api.Re{Kind: 2, Set: set.Span(0, 127)}, `[\x00-\x7f]`},
		{api.Re{Kind: 2, Set: set.Span(0, 128)}, `[^\x81-\xff]`},
		{dot(), "."},
		{name("a"), "a"},
		{name("_a"), "_a"},
		{name("defs"), "defs"},
		{name(strings.Repeat("Z", 31)), strings.Repeat("Z", 31)},
	} {
		writes(t, x.r, x.want)
		writes(t, not(x.r), "!"+x.want)
		writes(t, rep(x.r, 1, -1), x.want+"+")
		writes(t, cat(x.r, x.r), x.want+" "+x.want)
	}
	var all []byte
	for b := range 256 {
		all = append(all, byte(b))
		writes(t, text(string(all[b:])), lex.Text(string(all[b:])))
		writes(t, some(byte(b)), lex.Set(set.Of(byte(b))))
		writes(t, api.Re{Kind: 2, Set: set.Not(set.Of(byte(b)))}, lex.Set(set.Not(set.Of(byte(b)))))
	}
	writes(t, text(string(all)), lex.Text(string(all)))
	fails(t, text(string(all)+"a"), api.ErrArg)
}

// inner is an expression of each kind, with how it is written, and with how tightly it holds together by the grammar: the greater, the tighter.
var inner = []struct {
	r     api.Re
	want  string
	level int
}{
	{alt(name("a"), name("b")), "a | b", 0},
	{and(name("a"), name("b")), "a & b", 1},
	{cat(name("a"), name("b")), "a b", 2},
	{not(name("a")), "!a", 3},
	{rep(name("a"), 0, -1), "a*", 4},
	{rep(name("a"), 2, 3), "a{2,3}", 4},
	{text("a"), `"a"`, 5},
	{some('a'), "[a]", 5},
	{dot(), ".", 5},
	{name("a"), "a", 5},
}

// wraps are all kinds of expressions that have parts, around one part: the level they have, the least one that a part has without brackets, and what is written ahead of the part and behind it.
var wraps = []struct {
	wrap          func(api.Re) api.Re
	level, asked  int
	ahead, behind string
}{
	{func(r api.Re) api.Re { return alt(r, name("c")) }, 0, 1, "", " | c"},
	{func(r api.Re) api.Re { return alt(name("c"), r) }, 0, 1, "c | ", ""},
	{func(r api.Re) api.Re { return alt(name("c"), r, text("d")) }, 0, 1, "c | ", ` | "d"`},
	{func(r api.Re) api.Re { return and(r, name("c")) }, 1, 2, "", " & c"},
	{func(r api.Re) api.Re { return and(name("c"), r) }, 1, 2, "c & ", ""},
	{func(r api.Re) api.Re { return and(name("c"), r, text("d")) }, 1, 2, "c & ", ` & "d"`},
	{func(r api.Re) api.Re { return cat(r, name("c")) }, 2, 3, "", " c"},
	{func(r api.Re) api.Re { return cat(name("c"), r) }, 2, 3, "c ", ""},
	{func(r api.Re) api.Re { return cat(name("c"), r, text("d")) }, 2, 3, "c ", ` "d"`},
	{not, 3, 3, "!", ""},
	{star, 4, 5, "", "*"},
	{func(r api.Re) api.Re { return rep(r, 1, -1) }, 4, 5, "", "+"},
	{func(r api.Re) api.Re { return rep(r, 0, 1) }, 4, 5, "", "?"},
	{func(r api.Re) api.Re { return rep(r, 7, 7) }, 4, 5, "", "{7}"},
	{func(r api.Re) api.Re { return rep(r, 0, 2) }, 4, 5, "", "{0,2}"},
}

// within is how a part is written: in brackets, if its level is below the one that is asked for.
func within(s string, level, asked int) string {
	if level < asked {
		return "(" + s + ")"
	}
	return s
}

// TestKindsInKinds: each kind in each other one, and that in each other one.
func TestKindsInKinds(t *testing.T) {
	for _, x := range inner {
		writes(t, x.r, x.want)
		for _, w := range wraps {
			one := w.ahead + within(x.want, x.level, w.asked) + w.behind
			writes(t, w.wrap(x.r), one)
			for _, v := range wraps {
				writes(t, v.wrap(w.wrap(x.r)), v.ahead+within(one, w.level, v.asked)+v.behind)
			}
		}
	}
	writes(t, not(not(not(name("a")))), "!!!a")
	writes(t, alt(alt(name("a"), name("b")), alt(name("c"), name("d"))), "(a | b) | (c | d)")
	writes(t, and(alt(name("a"), name("b")), cat(name("c"), name("d")), and(name("e"), name("f"))), "(a | b) & c d & (e & f)")
	writes(t, alt(and(cat(not(star(name("a"))), dot()), name("b")), name("c")), "!a* . & b | c")
	writes(t, star(not(cat(and(alt(name("a"), name("b")), name("c")), name("d")))), "(!(((a | b) & c) d))*")
	writes(t, alt(repeated(name("a"), 5)...), "a | a | a | a | a")
}

func TestOften(t *testing.T) {
	for _, x := range []struct {
		min, max int
		want     string
	}{
		{0, -1, "a*"}, {1, -1, "a+"}, {0, 1, "a?"},
		{0, 0, "a{0}"}, {1, 1, "a{1}"}, {2, 2, "a{2}"}, {9, 9, "a{9}"}, {10, 10, "a{10}"}, {63, 63, "a{63}"}, {64, 64, "a{64}"},
		{0, 2, "a{0,2}"}, {0, 64, "a{0,64}"}, {1, 2, "a{1,2}"}, {1, 64, "a{1,64}"}, {2, 3, "a{2,3}"}, {10, 20, "a{10,20}"}, {63, 64, "a{63,64}"},
	} {
		writes(t, rep(name("a"), x.min, x.max), x.want)
		writes(t, rep(cat(name("a"), name("a")), x.min, x.max), "(a a)"+x.want[1:])
	}
	for _, x := range [][2]int{{2, -1}, {64, -1}, {-1, -1}, {-1, 1}, {1, 0}, {2, 1}, {64, 63}, {0, 65}, {65, 65}, {0, -2}, {math.MinInt, math.MaxInt}, {0, math.MaxInt}} {
		fails(t, rep(name("a"), x[0], x[1]), api.ErrArg)
	}
}

// wrongs are expressions that may not be.
func wrongs() []api.Re {
	return []api.Re{
		{}, {Kind: 9}, {Kind: -1}, {Kind: math.MaxInt},
		text(strings.Repeat("a", 257)), {Kind: 1, Set: set.Of(1)}, {Kind: 1, Parts: []api.Re{dot()}}, {Kind: 1, Min: 1}, {Kind: 1, Max: -1},
		{Kind: 2, Text: "a"}, {Kind: 2, Parts: []api.Re{dot()}}, {Kind: 2, Max: 1},
		name(""), name("def"), name("map"), name("token"), name("rule"), name("_"), name("0"), name("a b"), name(strings.Repeat("a", 32)), {Kind: 3, Text: "a", Set: each},
		cat(), cat(dot()), alt(), alt(dot()), and(), and(dot()),
		{Kind: 7}, {Kind: 7, Parts: []api.Re{dot(), dot()}}, {Kind: 8}, {Kind: 8, Parts: []api.Re{dot(), dot()}, Max: -1},
		{Kind: 4, Parts: []api.Re{dot(), dot()}, Text: "a"}, {Kind: 5, Parts: []api.Re{dot(), dot()}, Min: 1}, {Kind: 7, Parts: []api.Re{dot()}, Max: 1},
		cat(dot(), api.Re{}), not(name("_")), star(alt(dot(), name("rule"))),
	}
}

func TestWrongExpressions(t *testing.T) {
	for _, w := range wrongs() {
		fails(t, w, api.ErrArg)
		for _, x := range wraps {
			fails(t, x.wrap(w), api.ErrArg)
		}
		// Of one that is not right it plays no part how deep, or how long, it would be written.
		fails(t, alt(nested(name("a"), 33, not), w), api.ErrArg)
		fails(t, alt(w, cat(repeated(text(strings.Repeat("a", 256)), 300)...)), api.ErrArg)
		fails(t, alt(nested(name("a"), 200, not), w), api.ErrDeep)
		fails(t, nested(w, 197, not), api.ErrArg)
		fails(t, nested(w, 200, not), api.ErrDeep)
	}
	own := []api.Re{not(name("a")), not(name("a"))}
	own[1].Parts = own
	fails(t, cat(own...), api.ErrDeep)
}

// TestDepth: 32 brackets and ! may stand one in the other.
func TestDepth(t *testing.T) {
	a, times := name("a"), strings.Repeat
	inAlt := func(r api.Re) api.Re { return alt(a, r) }
	inCat := func(r api.Re) api.Re { return cat(r, a) }
	for _, n := range []int{2, 3, 31, 32, 33, 34, 64, 65, 198} {
		for _, x := range []struct {
			r    api.Re
			want string
		}{
			{nested(a, n, not), times("!", n) + "a"},
			{nested(a, n+1, star), times("(", n) + "a*" + times(")*", n)},
			{nested(a, n+1, inAlt), times("a | (", n) + "a | a" + times(")", n)},
			{nested(alt(a, a), n, inCat), times("(", n) + "a | a" + times(") a", n)},
			{not(nested(a, n, star)), "!" + times("(", n-1) + "a*" + times(")*", n-1)},
			{star(nested(a, n-1, not)), "(" + times("!", n-1) + "a)*"},
			{cat(nested(a, n, not), a, nested(a, n, not)), times("!", n) + "a a " + times("!", n) + "a"},
			{and(a, nested(a, n+1, star), nested(a, n, not)), "a & " + times("(", n) + "a*" + times(")*", n) + " & " + times("!", n) + "a"},
		} {
			if n > 32 {
				fails(t, x.r, api.ErrDeep)
				continue
			}
			writes(t, x.r, x.want)
			fails(t, nested(alt(x.r, a), 33-n, not), api.ErrDeep)
		}
	}
}

// TestMixedDepth: brackets and ! count alike.
func TestMixedDepth(t *testing.T) {
	a := name("a")
	both := func(r api.Re) api.Re { return star(not(r)) }
	writes(t, nested(a, 16, both), strings.Repeat("(!", 16)+"a"+strings.Repeat(")*", 16))
	fails(t, not(nested(a, 16, both)), api.ErrDeep)
	fails(t, nested(not(a), 16, both), api.ErrDeep)
	fails(t, nested(alt(not(a), a), 16, both), api.ErrDeep)
	// What looks like a bracket within a text or a set is none, nor are the others.
	writes(t, nested(text(strings.Repeat("(!", 99)), 32, not), strings.Repeat("!", 32)+`"`+strings.Repeat("(!", 99)+`"`)
	writes(t, nested(rep(some('(', '!'), 3, 4), 32, not), strings.Repeat("!", 32)+"[!(]{3,4}")
	// The deepest one that is written has 133 expressions, one in the other; 200 may be.
	deep := func(r api.Re) api.Re { return alt(a, and(a, cat(a, rep(r, 2, 2)))) }
	writes(t, nested(a, 33, deep), strings.Repeat("a | a & a (", 32)+"a | a & a a{2}"+strings.Repeat("){2}", 32))
	fails(t, nested(not(a), 33, deep), api.ErrDeep)
	fails(t, nested(a, 34, deep), api.ErrDeep)
	fails(t, nested(a, 49, deep), api.ErrDeep)
	fails(t, nested(a, 50, deep), api.ErrDeep)
}

// longRe is an expression that is written with so many bytes, 32 at least.
func longRe(bytes int) api.Re {
	var l []api.Re
	for bytes > 31 {
		n := min(31, bytes-2)
		l = append(l, name(strings.Repeat("a", n)))
		bytes -= n + 1
	}
	return cat(append(l, name(strings.Repeat("b", bytes)))...)
}

// ofBytes asks whether a text is of so many bytes, or ErrLong, if these are too many.
func ofBytes(t *testing.T, s string, e api.Errno, bytes int) {
	t.Helper()
	want := api.OK
	if bytes > 65536 {
		bytes, want = 0, api.ErrLong
	}
	if len(s) != bytes || e != want {
		t.Errorf("%d bytes, %d, want %d, %d", len(s), e, bytes, want)
	}
}

// TestLong: 65536 bytes may be written.
func TestLong(t *testing.T) {
	a := name("a")
	for _, n := range []int{65500, 65535, 65536, 65537, 65538, 131072, 131073, 1 << 20} {
		s, e := Re(longRe(n))
		ofBytes(t, s, e, n)
	}
	// What brings it over the bound may be anything that is written.
	for n := 65525; n <= 65538; n++ {
		r := longRe(n)
		for _, x := range []struct {
			r    api.Re
			more int
		}{
			{not(r), 3}, {star(r), 3}, {rep(r, 2, 64), 8}, {alt(r, a), 4}, {alt(a, r), 4}, {and(name("abc"), r), 6},
			{cat(r, text("\x00")), 9}, {cat(dot(), r), 4}, {star(star(r)), 6}, {not(not(r)), 4}, {cat(a, some('a'), a, r), 10},
		} {
			s, e := Re(x.r)
			ofBytes(t, s, e, n+x.more)
		}
	}
	// What would be short enough without a part that is not.
	fails(t, alt(longRe(65000), text(strings.Repeat("\x00", 256)), a), api.ErrLong)
	// What is too deep is told first, be it ahead of what is too long or behind it.
	deep := nested(a, 33, not)
	fails(t, alt(deep, longRe(65537)), api.ErrDeep)
	fails(t, alt(longRe(65537), deep), api.ErrDeep)
	fails(t, alt(longRe(1<<20), a, deep), api.ErrDeep)
	fails(t, nested(longRe(65537), 32, not), api.ErrDeep)
	fails(t, nested(longRe(65537), 31, not), api.ErrLong)
	// What is much too long takes no more room than what may be.
	fails(t, alt(repeated(text(strings.Repeat("\x00", 256)), 1<<16)...), api.ErrLong)
}

// TestReTurnsNothing: what is handed in is not written into, nor its spare room.
func TestReTurnsNothing(t *testing.T) {
	room := []api.Re{name("a"), alt(dot(), name("b")), {Kind: 77, Text: "kept"}}
	parts := []api.Re{name("a"), alt(dot(), name("b")), {Kind: 77, Text: "kept"}}
	r := cat(room[:2]...)
	r.Parts = room[:2]
	writes(t, r, "a (. | b)")
	writes(t, r, "a (. | b)")
	if !slices.EqualFunc(room, parts, alike) {
		t.Errorf("R2: %v, want %v", room, parts)
	}
	// A list without elements may be nil or not.
	writes(t, api.Re{Kind: 1, Text: "a", Parts: []api.Re{}}, `"a"`)
	writes(t, api.Re{Kind: 3, Text: "a", Parts: room[:0]}, "a")
	// The errors are those of layer 7.
	for _, w := range wrongs() {
		fails(t, w, parse.Check(w))
	}
}
