package show

import (
	"math"
	"slices"
	"strings"
	"testing"

	"whittle/api"
	"whittle/set"
)

// Items, as the document names their fields.
func def(name string, r api.Re) api.Item      { return api.Item{Kind: 1, Name: name, Re: r} }
func mapItem(name string, m api.Map) api.Item { return api.Item{Kind: 2, Name: name, Map: m} }
func ruleOut(r api.Re, s string) api.Item     { return api.Item{Kind: 3, Re: r, Out: s} }
func ruleBy(r api.Re, s string) api.Item      { return api.Item{Kind: 3, Re: r, By: s} }
func token(name string, r api.Re) api.Item    { return api.Item{Kind: 4, Name: name, Re: r} }

// around is a rule that stands between two.
func around(rule api.Item, left, right api.Re) api.Item {
	rule.Around, rule.Left, rule.Right = true, left, right
	return rule
}

// alikeItems: do two items say the same, field by field?
func alikeItems(x, y api.Item) bool {
	words := x.Kind == y.Kind && x.Name == y.Name && x.Out == y.Out && x.By == y.By && x.Around == y.Around
	return words && alike(x.Re, y.Re) && alikeMaps(x.Map, y.Map) && alike(x.Left, y.Left) && alike(x.Right, y.Right)
}

// writesFile asks for the text of items, and tells if it isn't want.
func writesFile(t *testing.T, want string, l ...api.Item) {
	t.Helper()
	if s, e := File(l); s != want || e != api.OK {
		t.Errorf("P8.2: File: %.300q, %d, want %.300q", s, e, want)
	}
}

// failsFile asks for the text of items, and tells if that isn't the error, and nothing else.
func failsFile(t *testing.T, want api.Errno, l ...api.Item) {
	t.Helper()
	if s, e := File(l); s != "" || e != want {
		t.Errorf("P8.2: File of %d: %.300q, %d, want none, %d", len(l), s, e, want)
	}
}

func TestItems(t *testing.T) {
	a, b := name("a"), name("b")
	writesFile(t, "")
	for _, x := range []struct {
		it   api.Item
		want string
	}{
		{def("a", text("x")), `def a = "x";`},
		{def("_d", alt(a, not(b))), "def _d = a | !b;"},
		{def(strings.Repeat("d", 31), dot()), "def " + strings.Repeat("d", 31) + " = .;"},
		{mapItem("m", same(dot())), "map m = .;"},
		{mapItem("up", malt(out(some('a'), "A"), mstar(mcat(same(a), same(b))))), `map up = [a]:"A" | (a b)*;`},
		{mapItem("maps", out(text(""), "")), `map maps = "":"";`},
		{token("t", star(alt(a, b))), "token t = (a | b)*;"},
		{token("tok", text("if")), `token tok = "if";`},
		{ruleOut(a, ""), `rule a -> "";`},
		{ruleOut(and(a, b), "q\n\""), `rule a & b -> "q\n\"";`},
		{ruleOut(a, strings.Repeat("\xff", 256)), `rule a -> "` + strings.Repeat(`\xff`, 256) + `";`},
		{ruleOut(a, "up"), `rule a -> "up";`},
		{ruleBy(a, "up"), "rule a -> up;"},
		{ruleBy(alt(a, b), "_"+strings.Repeat("0", 30)), "rule a | b -> _" + strings.Repeat("0", 30) + ";"},
		{around(ruleOut(a, ""), text(""), text("")), `rule a -> "" / "" _ "";`},
		{around(ruleBy(a, "up"), b, alt(a, b)), "rule a -> up / b _ a | b;"},
		{around(ruleOut(cat(a, b), "q"), not(a), star(dot())), `rule a b -> "q" / !a _ .*;`},
		{around(ruleBy(star(alt(a, b)), "m"), alt(a, alt(a, b)), and(alt(a, b), b)), "rule (a | b)* -> m / a | (a | b) _ (a | b) & b;"},
	} {
		writesFile(t, x.want+"\n", x.it)
		writesFile(t, x.want+"\n"+x.want+"\n", x.it, x.it)
		writesFile(t, "token z = b;\n"+x.want+"\nrule a -> b;\n", token("z", b), x.it, ruleBy(a, "b"))
	}
	for _, x := range inner {
		writesFile(t, "def x = "+x.want+";\n", def("x", x.r))
		writesFile(t, "token x = "+x.want+";\n", token("x", x.r))
		writesFile(t, "rule "+x.want+` -> "" / `+x.want+" _ "+x.want+";\n", around(ruleOut(x.r, ""), x.r, x.r))
	}
	for _, x := range innerMaps {
		writesFile(t, "map x = "+x.want+";\n", mapItem("x", x.m))
	}
}

// TestItemsByHand: all of some fields, of each kind and of none.
func TestItemsByHand(t *testing.T) {
	a := name("a")
	names := []string{"", "m", "def", "0"}
	res := []api.Re{{}, a, {Parts: []api.Re{}}, cat(a), star(a)}
	maps := []api.Map{{}, same(a), {Parts: []api.Map{}}, {Kind: 1}}
	outs := []string{"", "q", strings.Repeat("q", 256), strings.Repeat("q", 257)}
	empty := func(i int) bool { return i == 0 || i == 2 }
	fine := func(i int) bool { return i == 1 || i == 4 }
	rights := 0
	for kind := -1; kind <= 6; kind++ {
		for i := range names {
			for j := range res {
				for k := range maps {
					for o := range outs {
						for by := range names {
							for left := range res {
								for right := range res {
									for _, is := range []bool{false, true} {
										bare := o == 0 && by == 0 && !is && empty(left) && empty(right)
										want := false
										switch kind {
										case api.ItemDef, api.ItemToken:
											want = i == 1 && fine(j) && empty(k) && bare
										case api.ItemMap:
											want = i == 1 && empty(j) && k == 1 && bare
										case api.ItemRule:
											to := by == 0 && o < 3 || by == 1 && o == 0
											between := is && fine(left) && fine(right) || !is && empty(left) && empty(right)
											want = i == 0 && fine(j) && empty(k) && to && between
										}
										it := api.Item{Kind: kind, Name: names[i], Re: res[j], Map: maps[k], Out: outs[o], By: names[by], Around: is, Left: res[left], Right: res[right]}
										s, e := File([]api.Item{it})
										if want && (s == "" || e != api.OK) || !want && (s != "" || e != api.ErrArg) {
											t.Fatalf("P8.2: File(%v): %q, %d; right: %t", it, s, e, want)
										}
										if want {
											rights++
										}
									}
								}
							}
						}
					}
				}
			}
		}
	}
	if rights != 2*2*2*4+2*4+2*2*4*(4+4) {
		t.Errorf("%d of them are right", rights)
	}
}

// TestUselessFields: of what a kind has no use for each field alone is enough to be wrong.
func TestUselessFields(t *testing.T) {
	a := name("a")
	res := []api.Re{{Kind: 1}, {Kind: 9}, {Text: "a"}, {Set: set.Of(0)}, {Set: set.Of(255)}, {Parts: []api.Re{{}}}, {Min: 1}, {Max: -1}, a}
	maps := []api.Map{{Kind: 1}, {Kind: 9}, {Out: "q"}, {Re: a}, {Re: api.Re{Set: set.Of(200)}}, {Re: api.Re{Max: 1}}, {Parts: []api.Map{{}}}, {Min: 1}, {Max: -1}, same(a)}
	for _, it := range []api.Item{def("a", a), token("a", a), ruleOut(a, ""), ruleBy(a, "m"), around(ruleOut(a, "q"), a, a)} {
		for _, m := range maps {
			x := it
			x.Map = m
			failsFile(t, api.ErrArg, x)
		}
	}
	for _, r := range res {
		x := mapItem("m", same(a))
		x.Re = r
		failsFile(t, api.ErrArg, x)
		for _, it := range []api.Item{def("a", a), token("a", a), mapItem("a", same(a)), ruleOut(a, ""), ruleBy(a, "m")} {
			x, y := it, it
			x.Left, y.Right = r, r
			failsFile(t, api.ErrArg, x)
			failsFile(t, api.ErrArg, y)
		}
	}
	for _, kind := range []int{math.MinInt, -1, 0, 5, 6, 257, math.MaxInt} {
		for _, it := range []api.Item{{}, def("a", a), token("a", a), mapItem("a", same(a)), ruleOut(a, ""), ruleBy(a, "m")} {
			it.Kind = kind
			failsFile(t, api.ErrArg, it)
		}
	}
}

// TestNames: an item's name, and a rule's map, may be a NAME.
func TestNames(t *testing.T) {
	a := name("a")
	for _, s := range []string{"a", "Z", "a0", "_a", "__", "_0", "defs", "Def", "tokens", "rul", strings.Repeat("a", 31)} {
		writesFile(t, "def "+s+" = a;\nmap "+s+" = a;\ntoken "+s+" = a;\nrule a -> "+s+";\n", def(s, a), mapItem(s, same(a)), token(s, a), ruleBy(a, s))
	}
	for _, s := range []string{"def", "map", "token", "rule", "_", "0", "0a", " ", " a", "a ", "a\n", "a#", "#a", "a b", "a-b", "a.", "\"a\"", "é", "a\x00", strings.Repeat("a", 32), strings.Repeat("a", 70000)} {
		for _, it := range []api.Item{def(s, a), mapItem(s, same(a)), token(s, a), ruleBy(a, s), around(ruleBy(a, s), a, a)} {
			failsFile(t, api.ErrArg, it)
		}
	}
	for _, it := range []api.Item{def("", a), mapItem("", same(a)), token("", a)} {
		failsFile(t, api.ErrArg, it)
	}
}

// TestWrongItems: of an item all expressions and maps must be right, and all items.
func TestWrongItems(t *testing.T) {
	a := name("a")
	fine := []api.Item{def("a", a), ruleOut(a, ""), mapItem("m", same(a))}
	for _, w := range append(wrongs(), nested(a, 200, not)) {
		for _, it := range []api.Item{def("a", w), token("a", w), ruleOut(w, "q"), ruleBy(w, "m"), mapItem("m", same(w)), around(ruleOut(w, ""), a, a), around(ruleOut(a, ""), w, a), around(ruleBy(a, "m"), a, w)} {
			failsFile(t, api.ErrArg, it)
			for i := range fine {
				l := slices.Clone(fine)
				l[i] = it
				failsFile(t, api.ErrArg, l...)
			}
		}
	}
	for _, m := range []api.Map{{}, {Kind: 6}, mcat(same(a)), same(not(a)), mrep(same(a), 1, 1), out(a, strings.Repeat("q", 257)), nested(same(a), 200, mstar)} {
		failsFile(t, api.ErrArg, mapItem("m", m))
		failsFile(t, api.ErrArg, def("a", a), mapItem("m", malt(same(a), m)))
	}
	// Whether names are there, or twice, plays no part.
	writesFile(t, "def a = b;\ndef a = a;\nrule c -> d;\n", def("a", name("b")), def("a", a), ruleBy(name("c"), "d"))
}

// TestManyItems: 256 items may be.
func TestManyItems(t *testing.T) {
	it := ruleOut(name("a"), "")
	for _, n := range []int{1, 2, 255, 256} {
		writesFile(t, strings.Repeat("rule a -> \"\";\n", n), repeated(it, n)...)
		l := repeated(it, n)
		l[n-1].Kind = 0
		failsFile(t, api.ErrArg, l...)
	}
	for _, n := range []int{257, 258, 1000, 70000} {
		failsFile(t, api.ErrLong, repeated(it, n)...)
		failsFile(t, api.ErrLong, make([]api.Item, n)...)
		for _, i := range []int{0, 1, 255, 256, n - 1} {
			l := repeated(it, n)
			l[i] = def("rule", api.Re{})
			failsFile(t, api.ErrLong, l...)
			l[i] = def("a", nested(name("a"), 33, not))
			failsFile(t, api.ErrLong, l...)
		}
	}
}

// TestFileDepth: 32 brackets and ! may stand one in the other, in each expression and map.
func TestFileDepth(t *testing.T) {
	a, times := name("a"), strings.Repeat
	for _, n := range []int{2, 31, 32, 33, 34, 198} {
		var items []api.Item
		var want []string
		for s, r := range map[string]api.Re{
			times("!", n) + "a":                                nested(a, n, not),
			times("(", n) + "a*" + times(")*", n):              nested(a, n+1, star),
			"(" + times("!", n-1) + "a)*":                      star(nested(a, n-1, not)),
			"!" + times("(", n-1) + "a | a" + times(")+", n-1): not(nested(alt(a, a), n-1, func(r api.Re) api.Re { return rep(r, 1, -1) })),
		} {
			items = append(items, def("x", r), token("x", r), ruleOut(r, ""), ruleBy(r, "m"), around(ruleBy(r, "m"), a, a), around(ruleBy(a, "m"), r, a), around(ruleOut(a, ""), a, r), around(ruleOut(r, ""), r, r))
			want = append(want, "def x = "+s, "token x = "+s, "rule "+s+` -> ""`, "rule "+s+" -> m", "rule "+s+" -> m / a _ a", "rule a -> m / "+s+" _ a", `rule a -> "" / a _ `+s, "rule "+s+` -> "" / `+s+" _ "+s)
		}
		items = append(items, mapItem("x", nested(same(a), n+1, mstar)))
		want = append(want, "map x = "+times("(", n)+"a*"+times(")*", n))
		for i, it := range items {
			if n > 32 {
				failsFile(t, api.ErrDeep, it)
				failsFile(t, api.ErrDeep, ruleOut(a, ""), it, ruleBy(a, "m"))
				continue
			}
			writesFile(t, want[i]+";\n", it)
			writesFile(t, want[i]+";\n"+want[i]+";\n", it, it)
		}
	}
}

// TestLongFiles: 65536 bytes may be written, of all items together.
func TestLongFiles(t *testing.T) {
	a := name("a")
	for n := 65480; n <= 65540; n++ {
		r := longRe(n)
		// What is written, but for the long part: that stands at the @.
		for s, l := range map[string][]api.Item{
			"def x = @;\n":                            {def("x", r)},
			"token x = @;\nrule a -> m;\n":            {token("x", r), ruleBy(a, "m")},
			"rule a -> m;\ndef x = @;\n":              {ruleBy(a, "m"), def("x", r)},
			"map x = @;\nrule a -> \"\";\n":           {mapItem("x", longMap(n)), ruleOut(a, "")},
			"rule @ -> m;\n":                          {ruleBy(r, "m")},
			"rule a -> \"q\" / a _ @;\n":              {around(ruleOut(a, "q"), a, r)},
			"rule a -> \"q\" / @ _ a;\n":              {around(ruleOut(a, "q"), r, a)},
			"rule @ -> \"\" / a _ a;\nmap y = .;\n":   {around(ruleOut(r, ""), a, a), mapItem("y", same(dot()))},
			"token y = .;\nrule @ -> \"\\x00\";\n":    {token("y", dot()), ruleOut(r, "\x00")},
			"rule a -> \"\";\nrule @ -> m / a _ .;\n": {ruleOut(a, ""), around(ruleBy(r, "m"), a, dot())},
		} {
			written, e := File(l)
			ofBytes(t, written, e, len(s)-1+n)
		}
	}
	line := def("a", longRe(246))
	if s, e := File(repeated(line, 256)); len(s) != 65536 || e != api.OK {
		t.Errorf("P8.2: %d bytes, %d", len(s), e)
	}
	failsFile(t, api.ErrLong, append(repeated(line, 255), def("a", longRe(247)))...)
	failsFile(t, api.ErrLong, append([]api.Item{def("a", longRe(247))}, repeated(line, 255)...)...)
}

// TestFileErrors: what is too many is told first, then what is not right, then what is too deep, then what is too long, wherever it stands.
func TestFileErrors(t *testing.T) {
	a := name("a")
	deep, long := def("a", nested(a, 33, not)), def("a", longRe(65537))
	failsFile(t, api.ErrLong, long)
	failsFile(t, api.ErrLong, long, long)
	failsFile(t, api.ErrDeep, long, deep)
	failsFile(t, api.ErrDeep, deep, long)
	failsFile(t, api.ErrDeep, long, mapItem("m", nested(same(a), 34, mstar)))
	failsFile(t, api.ErrDeep, long, around(ruleOut(a, ""), a, nested(a, 33, not)))
	failsFile(t, api.ErrArg, long, deep, api.Item{})
	failsFile(t, api.ErrArg, def("_", a), deep, long)
	failsFile(t, api.ErrArg, deep, long, def("a", nested(a, 200, not)))
	failsFile(t, api.ErrLong, append(repeated(deep, 257), long, api.Item{})...)
}

// TestFileTurnsNothing: what is handed in is not written into, nor its spare room.
func TestFileTurnsNothing(t *testing.T) {
	made := func() []api.Item {
		return []api.Item{def("a", cat(dot(), text("x"))), mapItem("m", malt(same(name("a")), out(dot(), ""))), around(ruleBy(name("a"), "m"), dot(), star(dot())), {Kind: 77, Name: "kept"}}
	}
	room := made()
	want := "def a = . \"x\";\nmap m = a | .:\"\";\nrule a -> m / . _ .*;\n"
	writesFile(t, want, room[:3]...)
	writesFile(t, want, room[:3]...)
	if !slices.EqualFunc(room, made(), alikeItems) {
		t.Errorf("R2: %v", room)
	}
	writesFile(t, "", room[:0]...)
	writesFile(t, "", []api.Item{}...)
}
