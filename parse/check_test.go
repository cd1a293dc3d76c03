package parse

import (
	"math"
	"strings"
	"testing"

	"whittle/api"
	"whittle/set"
)

// checks asks for the check of an expression, and tells if it isn't want.
func checks(t *testing.T, r api.Re, want api.Errno) {
	t.Helper()
	if e := Check(r); e != want {
		t.Errorf("P7.2: Check(%.300s): %d, want %d", told(r), e, want)
	}
}

func TestCheckOfKinds(t *testing.T) {
	a, b := text("a"), name("b")
	for _, r := range []api.Re{a, b, text(""), some(), some('a'), dot(), cat(a, b), cat(a, b, a), alt(a, b), alt(a, a, a), and(a, b), and(b, a, b), not(a), not(not(b)), star(a), plus(a), maybe(a), rep(a, 0, 0), rep(a, 64, 64), cat(cat(a, b), alt(a, and(a, b))), star(star(a)), not(cat(star(a), not(b)))} {
		checks(t, r, api.OK)
	}
	for _, kind := range []int{0, -1, 9, 10, 256, 257, math.MinInt, math.MaxInt, 1 << 32} {
		checks(t, api.Re{Kind: kind}, api.ErrArg)
		for k := 1; k <= 8; k++ {
			r := rightOf(k)
			r.Kind = kind
			checks(t, r, api.ErrArg)
		}
		checks(t, not(api.Re{Kind: kind}), api.ErrArg)
		checks(t, cat(a, api.Re{Kind: kind}), api.ErrArg)
		checks(t, star(not(alt(a, b, api.Re{Kind: kind}))), api.ErrArg)
	}
}

// rightOf is a right expression of a kind.
func rightOf(kind int) api.Re {
	return []api.Re{{}, text("a"), some('a'), name("a"), cat(name("a"), text("b")), alt(dot(), name("b")), and(name("a"), dot()), not(text("")), rep(dot(), 1, 2)}[kind]
}

// TestCheckOfUseless: what a kind has no use for is 0 or empty.
func TestCheckOfUseless(t *testing.T) {
	// Which kinds have a use for which field.
	ofText, ofSet, ofParts, ofOften := "13", "2", "45678", "8"
	for k := 1; k <= 8; k++ {
		has := func(l string) bool { return strings.IndexByte(l, byte('0'+k)) >= 0 }
		checks(t, rightOf(k), api.OK)
		if !has(ofText) {
			for _, s := range []string{"a", "_", " ", "\x00"} {
				r := rightOf(k)
				r.Text = s
				checks(t, r, api.ErrArg)
			}
		}
		if !has(ofSet) {
			for b := range 256 {
				r := rightOf(k)
				r.Set = set.Of(byte(b))
				checks(t, r, api.ErrArg)
			}
		}
		if !has(ofParts) {
			for n := 1; n <= 3; n++ {
				r := rightOf(k)
				r.Parts = repeated(name("a"), n)
				checks(t, r, api.ErrArg)
			}
			r := rightOf(k)
			r.Parts = []api.Re{}
			checks(t, r, api.OK)
			r.Parts = repeated(name("a"), 3)[:0]
			checks(t, r, api.OK)
		}
		if !has(ofOften) {
			for _, n := range []int{-1, 1, 2, 64, math.MaxInt, math.MinInt} {
				r := rightOf(k)
				r.Min = n
				checks(t, r, api.ErrArg)
				r.Max = n
				checks(t, r, api.ErrArg)
				r.Min = 0
				checks(t, r, api.ErrArg)
			}
		}
	}
}

func TestCheckOfTexts(t *testing.T) {
	for _, n := range []int{0, 1, 31, 32, 255, 256} {
		checks(t, text(strings.Repeat("\xff", n)), api.OK)
		checks(t, not(text(strings.Repeat("a", n))), api.OK)
	}
	for _, n := range []int{257, 258, 512, 65536, 70000} {
		checks(t, text(strings.Repeat("\xff", n)), api.ErrArg)
		checks(t, not(text(strings.Repeat("a", n))), api.ErrArg)
	}
	for _, s := range []string{"a", "Z", "a0", "_a", "a_", "__", "_0", "defs", "Def", "DEF", "maps", "tokens", "rul", "de", "rule_", "_def", strings.Repeat("a", 31), strings.Repeat("_", 31), "z" + strings.Repeat("9", 30)} {
		checks(t, name(s), api.OK)
		checks(t, alt(dot(), name(s)), api.OK)
	}
	for _, s := range []string{"", "def", "map", "token", "rule", "_", "0", "0a", "7", " ", " a", "a ", "a\n", "\na", "a#", "#a", "a b", "a-b", "a.", ".", "(", "->", `"a"`, "[a]", "\"", "[", "é", "aé", "a\x00", "\x00", "\xff", "%", "a%", "a=b;", strings.Repeat("a", 32), strings.Repeat("a", 64), strings.Repeat("_", 70000), strings.Repeat(" ", 70000) + "a"} {
		checks(t, name(s), api.ErrArg)
		checks(t, alt(dot(), name(s)), api.ErrArg)
	}
	for b := range 256 {
		c := string([]byte{byte(b)})
		letter := b >= 'a' && b <= 'z' || b >= 'A' && b <= 'Z'
		digit := b >= '0' && b <= '9'
		checks(t, name(c), errorUnless(letter))
		checks(t, name("x"+c), errorUnless(letter || digit || c == "_"))
		checks(t, name(c+"x"), errorUnless(letter || c == "_"))
	}
}

// errorUnless is what is told of an expression that is right, or is not.
func errorUnless(right bool) api.Errno {
	if right {
		return api.OK
	}
	return api.ErrArg
}

func TestCheckOfParts(t *testing.T) {
	wrongs := []api.Re{{}, name("def"), not(api.Re{}), cat(name("a")), rep(name("a"), 2, 1), {Kind: 1, Min: 1}}
	for k := 4; k <= 8; k++ {
		for n := range 6 {
			r := rightOf(k)
			r.Parts = repeated(name("a"), n)
			right := n >= 2 && k <= 6 || n == 1 && k >= 7
			checks(t, r, errorUnless(right))
			for i := range n {
				for _, w := range wrongs {
					r.Parts = repeated(name("a"), n)
					r.Parts[i] = w
					checks(t, r, api.ErrArg)
					checks(t, alt(dot(), r), api.ErrArg)
				}
			}
		}
		r := rightOf(k)
		r.Parts = nil
		checks(t, r, api.ErrArg)
		r.Parts = []api.Re{}
		checks(t, r, api.ErrArg)
	}
	checks(t, alt(repeated(dot(), 70000)...), api.OK)
	checks(t, alt(append(repeated(dot(), 70000), api.Re{})...), api.ErrArg)
}

func TestCheckOfBounds(t *testing.T) {
	l := []int{math.MinInt, math.MinInt32, -65, -64, -3, -2, -1, 0, 1, 2, 3, 62, 63, 64, 65, 66, 128, 256, math.MaxInt32, math.MaxInt}
	for _, min := range l {
		for _, max := range l {
			right := min >= 0 && max <= 64 && min <= max || max == -1 && (min == 0 || min == 1)
			checks(t, rep(dot(), min, max), errorUnless(right))
			checks(t, not(rep(dot(), min, max)), errorUnless(right))
		}
	}
}

// nested is an expression of so many, one in the other, with the innermost one handed in.
func nested(r api.Re, n int, wrap func(api.Re) api.Re) api.Re {
	for range n - 1 {
		r = wrap(r)
	}
	return r
}

func TestCheckOfDeep(t *testing.T) {
	a := name("a")
	wraps := []func(api.Re) api.Re{
		not, star, plus, maybe,
		func(r api.Re) api.Re { return cat(r, a) },
		func(r api.Re) api.Re { return cat(a, r) },
		func(r api.Re) api.Re { return alt(a, r, a) },
		func(r api.Re) api.Re { return and(a, a, a, r) },
		func(r api.Re) api.Re { return rep(r, 2, 64) },
	}
	for _, wrap := range wraps {
		for _, n := range []int{2, 3, 33, 34, 100, 199, 200} {
			checks(t, nested(a, n, wrap), api.OK)
			checks(t, nested(dot(), n, wrap), api.OK)
			checks(t, nested(api.Re{}, n, wrap), api.ErrArg)
			checks(t, nested(name("def"), n, wrap), api.ErrArg)
		}
		for _, n := range []int{201, 202, 256, 400, 5000} {
			checks(t, nested(a, n, wrap), api.ErrDeep)
			checks(t, nested(api.Re{}, n, wrap), api.ErrDeep)
			checks(t, nested(cat(a, a), n-1, wrap), api.ErrDeep)
			// Which one is wrong, and what it has no use for, plays no part.
			checks(t, nested(api.Re{Kind: 1, Parts: []api.Re{a}}, n-1, wrap), api.ErrDeep)
			checks(t, api.Re{Kind: 0, Parts: []api.Re{nested(a, n-1, wrap)}}, api.ErrDeep)
			checks(t, api.Re{Kind: 1, Min: 7, Parts: []api.Re{nested(a, n-1, wrap)}}, api.ErrDeep)
			checks(t, cat(api.Re{}, nested(a, n-1, wrap), api.Re{}), api.ErrDeep)
			checks(t, cat(nested(a, n-1, wrap), api.Re{}), api.ErrDeep)
			checks(t, not(api.Re{Kind: 7, Text: "a", Parts: []api.Re{a, nested(a, n-2, wrap)}}), api.ErrDeep)
		}
		checks(t, cat(nested(a, 199, wrap), nested(a, 199, wrap)), api.OK)
		checks(t, cat(nested(a, 198, wrap), nested(a, 200, wrap)), api.ErrDeep)
		checks(t, api.Re{Kind: 3, Text: "a", Parts: []api.Re{nested(a, 199, wrap)}}, api.ErrArg)
	}
	// One that stands within itself has no innermost one.
	own := []api.Re{not(a), not(a)}
	own[1].Parts = own
	checks(t, cat(own...), api.ErrDeep)
	own[0].Parts = own
	checks(t, own[0], api.ErrDeep)
}

// TestCheckTurnsNothing: what is handed in is not written into, nor its spare room.
func TestCheckTurnsNothing(t *testing.T) {
	room := []api.Re{name("a"), {Kind: 8, Text: "x", Set: set.Of(1), Parts: []api.Re{dot()}, Min: 3, Max: 4}, {Kind: 77, Text: "kept"}}
	r := api.Re{Kind: 4, Text: "t", Set: set.Of(2), Parts: room[:2], Min: 5, Max: 6}
	want, wantRoom := told(r), told(cat(room...))
	first := Check(r)
	if Check(r) != first || told(r) != want || told(cat(room...)) != wantRoom {
		t.Errorf("R2: %s and %s, want %s and %s", told(r), told(cat(room...)), want, wantRoom)
	}
}

// TestCheckByHand: all of some texts, sets, parts and bounds, of each kind.
func TestCheckByHand(t *testing.T) {
	texts := []string{"", "a", "def", "_", "a b", strings.Repeat("b", 31), strings.Repeat("b", 32), strings.Repeat("b", 256), strings.Repeat("b", 257)}
	sets := []api.Set{{}, set.Of(0), set.Of(255), each}
	lists := [][]api.Re{nil, {}, {dot()}, {{}}, {dot(), name("a")}, {dot(), {}}, {dot(), dot(), dot()}, {{}, dot(), dot()}}
	bounds := []int{-2, -1, 0, 1, 2, 64, 65}
	for kind := -1; kind <= 9; kind++ {
		for i, s := range texts {
			for j, in := range sets {
				for k, parts := range lists {
					for _, min := range bounds {
						for _, max := range bounds {
							bare := j == 0 && min == 0 && max == 0
							right := false
							switch kind {
							case api.ReText:
								right = i <= 7 && bare && k <= 1
							case api.ReSet:
								right = i == 0 && k <= 1 && min == 0 && max == 0
							case api.ReName:
								right = (i == 1 || i == 5) && bare && k <= 1
							case api.ReCat, api.ReAlt, api.ReAnd:
								right = i == 0 && bare && (k == 4 || k == 6)
							case api.ReNot:
								right = i == 0 && bare && k == 2
							case api.ReRep:
								often := max == -1 && (min == 0 || min == 1) || min >= 0 && max >= min && max <= 64
								right = i == 0 && j == 0 && k == 2 && often
							}
							checks(t, api.Re{Kind: kind, Text: s, Set: in, Parts: parts, Min: min, Max: max}, errorUnless(right))
						}
					}
				}
			}
		}
	}
}
