package show

import (
	"fmt"
	"math"
	"slices"
	"strings"
	"testing"

	"whittle/api"
	"whittle/set"
)

// Maps, as the document names their fields.
func same(r api.Re) api.Map          { return api.Map{Kind: 1, Re: r} }
func out(r api.Re, s string) api.Map { return api.Map{Kind: 2, Re: r, Out: s} }
func mcat(l ...api.Map) api.Map      { return api.Map{Kind: 3, Parts: l} }
func malt(l ...api.Map) api.Map      { return api.Map{Kind: 4, Parts: l} }
func mstar(m api.Map) api.Map        { return mrep(m, 0, -1) }
func mrep(m api.Map, min, max int) api.Map {
	return api.Map{Kind: 5, Parts: []api.Map{m}, Min: min, Max: max}
}

// alikeMaps: do two maps say the same, field by field?
func alikeMaps(m, n api.Map) bool {
	return m.Kind == n.Kind && alike(m.Re, n.Re) && m.Out == n.Out && m.Min == n.Min && m.Max == n.Max && slices.EqualFunc(m.Parts, n.Parts, alikeMaps)
}

// toldMap is a map, down to so many levels.
func toldMap(m api.Map, most int) string {
	if most == 0 {
		return ".."
	}
	var l []string
	for _, x := range m.Parts[:min(len(m.Parts), 3)] {
		l = append(l, toldMap(x, most-1))
	}
	return fmt.Sprintf("{%d %s %.40q %d %d %d [%s]}", m.Kind, told(m.Re, 2), m.Out, m.Min, m.Max, len(m.Parts), strings.Join(l, " "))
}

// writesMap asks for the text of a map, and tells if it isn't want.
func writesMap(t *testing.T, m api.Map, want string) {
	t.Helper()
	if s, e := Map(m); s != want || e != api.OK {
		t.Errorf("P8.1: Map(%s): %.300q, %d, want %.300q", toldMap(m, 4), s, e, want)
	}
}

// failsMap asks for the text of a map, and tells if that isn't the error, and nothing else.
func failsMap(t *testing.T, m api.Map, want api.Errno) {
	t.Helper()
	if s, e := Map(m); s != "" || e != want {
		t.Errorf("P8.1: Map(%s): %.300q, %d, want none, %d", toldMap(m, 4), s, e, want)
	}
}

func TestPlainMaps(t *testing.T) {
	for _, x := range []struct {
		r    api.Re
		want string
	}{
		{text(""), `""`},
		{text("a\"\n"), `"a\"\n"`},
		{text(strings.Repeat("a", 256)), `"` + strings.Repeat("a", 256) + `"`},
		{some(), "[]"},
		{some('a', 'b', 'c'), "[a-c]"},
		{api.Re{Kind: 2, Set: set.Not(set.Of('^'))}, `[^\^]`},
		{dot(), "."},
		{name("a"), "a"},
		{name("_up"), "_up"},
		{name(strings.Repeat("z", 31)), strings.Repeat("z", 31)},
	} {
		writesMap(t, same(x.r), x.want)
		writesMap(t, out(x.r, ""), x.want+`:""`)
		writesMap(t, out(x.r, "q"), x.want+`:"q"`)
		writesMap(t, out(x.r, ":\"\xff\n|"), x.want+`:":\"\xff\n|"`)
		writesMap(t, out(x.r, strings.Repeat("q", 256)), x.want+`:"`+strings.Repeat("q", 256)+`"`)
		writesMap(t, out(x.r, strings.Repeat("\x00", 256)), x.want+`:"`+strings.Repeat(`\x00`, 256)+`"`)
		writesMap(t, mcat(same(x.r), out(x.r, "q"), same(x.r)), x.want+" "+x.want+`:"q" `+x.want)
		failsMap(t, out(x.r, strings.Repeat("q", 257)), api.ErrArg)
		failsMap(t, mstar(out(x.r, strings.Repeat("q", 1000))), api.ErrArg)
	}
}

// innerMaps are maps of each kind, with how they are written, and with how tightly they hold together by the grammar.
var innerMaps = []struct {
	m     api.Map
	want  string
	level int
}{
	{malt(same(name("a")), same(name("b"))), "a | b", 0},
	{mcat(same(name("a")), same(name("b"))), "a b", 1},
	{mstar(same(name("a"))), "a*", 2},
	{mrep(out(name("a"), "q"), 0, 1), `a:"q"?`, 2},
	{same(name("a")), "a", 3},
	{same(dot()), ".", 3},
	{same(text("a")), `"a"`, 3},
	{out(some('a'), "q"), `[a]:"q"`, 3},
	{out(text("a"), ""), `"a":""`, 3},
}

// mapWraps are all kinds of maps that have parts, around one part: the level they have, the least one that a part has without brackets, and what is written ahead of the part and behind it.
var mapWraps = []struct {
	wrap          func(api.Map) api.Map
	level, asked  int
	ahead, behind string
}{
	{func(m api.Map) api.Map { return malt(m, same(name("c"))) }, 0, 1, "", " | c"},
	{func(m api.Map) api.Map { return malt(same(name("c")), m) }, 0, 1, "c | ", ""},
	{func(m api.Map) api.Map { return malt(same(name("c")), m, out(dot(), "d")) }, 0, 1, "c | ", ` | .:"d"`},
	{func(m api.Map) api.Map { return mcat(m, same(name("c"))) }, 1, 2, "", " c"},
	{func(m api.Map) api.Map { return mcat(same(name("c")), m) }, 1, 2, "c ", ""},
	{func(m api.Map) api.Map { return mcat(same(name("c")), m, out(dot(), "d")) }, 1, 2, "c ", ` .:"d"`},
	{mstar, 2, 3, "", "*"},
	{func(m api.Map) api.Map { return mrep(m, 1, -1) }, 2, 3, "", "+"},
	{func(m api.Map) api.Map { return mrep(m, 0, 1) }, 2, 3, "", "?"},
}

// TestMapsInMaps: each kind in each other one, and that in each other one.
func TestMapsInMaps(t *testing.T) {
	for _, x := range innerMaps {
		writesMap(t, x.m, x.want)
		for _, w := range mapWraps {
			one := w.ahead + within(x.want, x.level, w.asked) + w.behind
			writesMap(t, w.wrap(x.m), one)
			for _, v := range mapWraps {
				writesMap(t, v.wrap(w.wrap(x.m)), v.ahead+within(one, w.level, v.asked)+v.behind)
			}
		}
	}
	a, b := same(name("a")), out(name("b"), "")
	writesMap(t, malt(repeated(a, 5)...), "a | a | a | a | a")
	writesMap(t, malt(malt(a, b), mcat(mcat(a, b), mstar(malt(a, b)))), `(a | b:"") | (a b:"") (a | b:"")*`)
	writesMap(t, mrep(mstar(b), 1, -1), `(b:""*)+`)
}

// TestReInMaps: the expression of a map is a text, a set or a name.
func TestReInMaps(t *testing.T) {
	for _, x := range inner {
		if x.level == 5 {
			writesMap(t, same(x.r), x.want)
			writesMap(t, out(x.r, "q"), x.want+`:"q"`)
			continue
		}
		for _, m := range []api.Map{same(x.r), out(x.r, "q"), malt(same(name("a")), same(x.r)), mstar(out(x.r, ""))} {
			failsMap(t, m, api.ErrArg)
		}
	}
	for _, w := range append(wrongs(), nested(name("a"), 200, not), api.Re{Kind: 1, Parts: []api.Re{nested(name("a"), 200, not)}}) {
		for _, m := range []api.Map{same(w), out(w, "q"), malt(same(name("a")), same(w)), mstar(out(w, ""))} {
			failsMap(t, m, api.ErrArg)
		}
	}
}

// TestMapsByHand: all of some fields, of each kind and of none.
func TestMapsByHand(t *testing.T) {
	a := same(name("a"))
	res := []api.Re{{}, name("a"), {Parts: []api.Re{}}, {Text: "a"}, {Set: set.Of(7)}, {Min: 1}, {Max: -1}, {Parts: []api.Re{dot()}}, {}, star(dot())}
	outs := []string{"", "q", strings.Repeat("q", 256), strings.Repeat("q", 257)}
	lists := [][]api.Map{nil, {}, {a}, {a, a}, {a, a, a}, {{}}, {a, {}}, {mcat(a), a, a}}
	bounds := []int{-2, -1, 0, 1, 2, 64, math.MaxInt, math.MinInt}
	for _, kind := range []int{math.MinInt, -1, 0, 1, 2, 3, 4, 5, 6, 257, math.MaxInt} {
		for i, r := range res {
			for j, s := range outs {
				for k, parts := range lists {
					for _, min := range bounds {
						for _, max := range bounds {
							noRe, bare := i == 0 || i == 2 || i == 8, min == 0 && max == 0
							right := false
							switch kind {
							case api.MapSame:
								right = i == 1 && j == 0 && k < 2 && bare
							case api.MapOut:
								right = i == 1 && j < 3 && k < 2 && bare
							case api.MapCat, api.MapAlt:
								right = noRe && j == 0 && (k == 3 || k == 4) && bare
							case api.MapRep:
								often := min == 0 && max == -1 || min == 1 && max == -1 || min == 0 && max == 1
								right = noRe && j == 0 && k == 2 && often
							}
							m := api.Map{Kind: kind, Re: r, Out: s, Parts: parts, Min: min, Max: max}
							said, e := Map(m)
							if right && (said == "" || e != api.OK) || !right && (said != "" || e != api.ErrArg) {
								t.Fatalf("P8.1: Map(%s): %q, %d; right: %t", toldMap(m, 4), said, e, right)
							}
						}
					}
				}
			}
		}
	}
}

// TestWrongParts: all parts must be right, wherever they stand.
func TestWrongParts(t *testing.T) {
	a := same(name("a"))
	for _, w := range []api.Map{{}, {Kind: 6}, same(api.Re{}), same(name("rule")), out(not(name("a")), ""), {Kind: 3}, mcat(a), malt(a), mrep(a, 1, 1), mrep(a, 0, 2), {Kind: 5, Max: -1}, {Kind: 5, Parts: []api.Map{a, a}, Max: -1}} {
		failsMap(t, w, api.ErrArg)
		for _, x := range mapWraps {
			failsMap(t, x.wrap(w), api.ErrArg)
			for _, y := range mapWraps {
				failsMap(t, y.wrap(x.wrap(w)), api.ErrArg)
			}
		}
		// Of one that is not right it plays no part how deep, or how long, it would be written.
		failsMap(t, malt(nested(a, 34, mstar), w), api.ErrArg)
		failsMap(t, malt(w, longMap(65537)), api.ErrArg)
	}
}

// TestDeepMaps: 200 maps may stand one in the other; as many are never written.
func TestDeepMaps(t *testing.T) {
	a := same(name("a"))
	for _, w := range mapWraps {
		for _, leaf := range []api.Map{a, out(dot(), "q")} {
			failsMap(t, nested(leaf, 198, w.wrap), api.ErrDeep)
			failsMap(t, nested(leaf, 199, w.wrap), api.ErrDeep)
			failsMap(t, nested(leaf, 200, w.wrap), api.ErrArg)
			failsMap(t, nested(leaf, 201, w.wrap), api.ErrArg)
			failsMap(t, nested(leaf, 5000, w.wrap), api.ErrArg)
			failsMap(t, malt(nested(leaf, 198, w.wrap), nested(leaf, 198, w.wrap)), api.ErrDeep)
			failsMap(t, malt(nested(leaf, 198, w.wrap), nested(leaf, 199, w.wrap)), api.ErrArg)
			failsMap(t, malt(nested(leaf, 199, w.wrap), a), api.ErrArg)
		}
	}
	// Ones that stand within themselves have no innermost one.
	for _, own := range [][]api.Map{{a, a}, {a, mstar(a)}, {mstar(a), a}, {mcat(a, a), malt(a, a)}} {
		for i := range own {
			own[i] = api.Map{Kind: 4, Parts: own}
			failsMap(t, mcat(own...), api.ErrArg)
			failsMap(t, api.Map{Kind: 1, Re: name("a"), Parts: own}, api.ErrArg)
			failsMap(t, api.Map{Kind: 9, Parts: own}, api.ErrArg)
		}
	}
}

// TestMapDepth: 32 brackets may stand one in the other.
func TestMapDepth(t *testing.T) {
	a, times := same(name("a")), strings.Repeat
	inAlt := func(m api.Map) api.Map { return malt(a, m) }
	inCat := func(m api.Map) api.Map { return mcat(m, a) }
	mixed := func(m api.Map) api.Map { return malt(a, mcat(a, mrep(m, 0, 1))) }
	for _, n := range []int{1, 2, 31, 32, 33, 34, 64} {
		for _, x := range []struct {
			m    api.Map
			want string
		}{
			{nested(a, n+1, mstar), times("(", n) + "a*" + times(")*", n)},
			{nested(inAlt(a), n, inAlt), times("a | (", n) + "a | a" + times(")", n)},
			{nested(malt(a, a), n, inCat), times("(", n) + "a | a" + times(") a", n)},
			{nested(a, n+1, mixed), times("a | a (", n) + "a | a a?" + times(")?", n)},
			{mcat(nested(a, n+1, mstar), a, nested(a, n+1, mstar)), times("(", n) + "a*" + times(")*", n) + " a " + times("(", n) + "a*" + times(")*", n)},
		} {
			if n > 32 {
				failsMap(t, x.m, api.ErrDeep)
				continue
			}
			writesMap(t, x.m, x.want)
		}
	}
	brackets := out(text(strings.Repeat("(!", 100)), strings.Repeat("(!", 100))
	writesMap(t, nested(brackets, 33, mstar), times("(", 32)+`"`+times("(!", 100)+`":"`+times("(!", 100)+`"*`+times(")*", 32))
}

// longMap is a map that is written with so many bytes, 32 at least.
func longMap(bytes int) api.Map {
	m := api.Map{Kind: 3}
	for _, r := range longRe(bytes).Parts {
		m.Parts = append(m.Parts, same(r))
	}
	return m
}

// TestLongMaps: 65536 bytes may be written.
func TestLongMaps(t *testing.T) {
	a := same(name("a"))
	for n := 65520; n <= 65540; n++ {
		m := longMap(n)
		for _, x := range []struct {
			m    api.Map
			more int
		}{
			{m, 0}, {mstar(m), 3}, {malt(m, a), 4}, {malt(a, m), 4}, {mcat(m, a), 4}, {mrep(malt(a, m), 1, -1), 7}, {malt(m, out(dot(), "")), 7}, {malt(out(some('a'), "\x00"), m), 13},
		} {
			s, e := Map(x.m)
			ofBytes(t, s, e, n+x.more)
		}
	}
	failsMap(t, malt(longMap(65000), out(text(""), strings.Repeat("\x00", 256)), a), api.ErrLong)
	deep := nested(a, 34, mstar)
	failsMap(t, malt(deep, longMap(65537)), api.ErrDeep)
	failsMap(t, malt(longMap(65537), deep), api.ErrDeep)
	failsMap(t, malt(longMap(1<<20), a, deep), api.ErrDeep)
	failsMap(t, malt(longMap(65537), deep, api.Map{}), api.ErrArg)
}

// TestMapTurnsNothing: what is handed in is not written into, nor its spare room.
func TestMapTurnsNothing(t *testing.T) {
	made := func() []api.Map {
		return []api.Map{same(name("a")), malt(out(dot(), "q"), same(name("b"))), {Kind: 77, Out: "kept"}}
	}
	room := made()
	m := api.Map{Kind: 3, Parts: room[:2]}
	writesMap(t, m, `a (.:"q" | b)`)
	writesMap(t, m, `a (.:"q" | b)`)
	if !slices.EqualFunc(room, made(), alikeMaps) {
		t.Errorf("R2: %v", room)
	}
	writesMap(t, api.Map{Kind: 1, Re: api.Re{Kind: 3, Text: "a", Parts: []api.Re{}}, Parts: room[:0]}, "a")
	writesMap(t, api.Map{Kind: 5, Re: api.Re{Parts: []api.Re{}}, Parts: room[:1], Max: 1}, "a?")
}
