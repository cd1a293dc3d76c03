package span

import (
	"math"
	"slices"
	"testing"

	"whittle/api"
)

func sp(from, to int) api.Span { return api.Span{From: from, To: to} }

// numbers has the least and the greatest ones, and small ones on both sides of 0.
var numbers = []int{math.MinInt, math.MinInt + 1, math.MinInt32, -2, -1, 0, 1, 2, 3, 4, math.MaxInt32, math.MaxInt - 1, math.MaxInt}

// samples has a span of each two numbers, those that may be of no text among them.
func samples() []api.Span {
	var l []api.Span
	for _, from := range numbers {
		for _, to := range numbers {
			l = append(l, sp(from, to))
		}
	}
	return l
}

// few has the samples of small numbers and of the two ends.
func few() []api.Span {
	return slices.DeleteFunc(samples(), func(s api.Span) bool {
		some := []int{math.MinInt, -1, 0, 1, 2, math.MaxInt}
		return !slices.Contains(some, s.From) || !slices.Contains(some, s.To)
	})
}

// spansOf has all spans that may be of a text of n bytes, the empty ones among them.
func spansOf(n int) []api.Span {
	var l []api.Span
	for from := 0; from <= n; from++ {
		for to := from; to <= n; to++ {
			l = append(l, sp(from, to))
		}
	}
	return l
}

// rowsOf has all rows of up to most spans of l, the short ones ahead.
func rowsOf(l []api.Span, most int) [][]api.Span {
	rows := [][]api.Span{nil}
	for at := 0; at < len(rows) && len(rows[at]) < most; at++ {
		for _, s := range l {
			rows = append(rows, append(slices.Clone(rows[at]), s))
		}
	}
	return rows
}

// mayBe is the document's word for a span that may be of a text of n bytes.
func mayBe(s api.Span, n int) bool {
	return s.From >= 0 && s.From <= s.To && s.To <= n
}

// rises is the document's word for a row that rises, of all two of it: what rises side by side rises from far, too.
func rises(l []api.Span) bool {
	for i, s := range l {
		for _, t := range l[i:] {
			if s.From > t.From || s.To > t.To {
				return false
			}
		}
	}
	return true
}

// isWithin is whether s stands within t.
func isWithin(s, t api.Span) bool { return t.From <= s.From && s.To <= t.To }

// allByHand sorts the Froms and the Tos, and takes the first and the last one.
func allByHand(l []api.Span) (api.Span, api.Errno) {
	if len(l) == 0 {
		return sp(0, 0), api.ErrNone
	}
	var from, to []int
	for _, s := range l {
		from = append(from, s.From)
		to = append(to, s.To)
	}
	slices.Sort(from)
	slices.Sort(to)
	return sp(from[0], to[len(to)-1]), api.OK
}

// throughByHand tells what the document does of l, s and n, byte by byte.
func throughByHand(l []api.Span, s api.Span, n int) (api.Span, api.Errno) {
	bad := slices.ContainsFunc(l, func(t api.Span) bool { return !mayBe(t, n) })
	if bad || n < 0 || !mayBe(s, len(l)) {
		return sp(0, 0), api.ErrArg
	}
	if s.From == s.To {
		at := 0
		for i := len(l) - 1; i >= 0; i-- {
			if i == s.From-1 {
				at = l[i].To
			}
			if i == 0 && s.From == 0 {
				at = l[i].From
			}
		}
		return sp(at, at), api.OK
	}
	var in []api.Span
	for i, t := range l {
		if s.From <= i && i < s.To {
			in = append(in, t)
		}
	}
	return allByHand(in)
}

func TestCheckByHand(t *testing.T) {
	for _, x := range []struct {
		s    api.Span
		n    int
		want api.Errno
	}{
		{sp(0, 0), 0, api.OK},
		{sp(0, 0), 5, api.OK},
		{sp(5, 5), 5, api.OK},
		{sp(3, 3), 5, api.OK},
		{sp(0, 5), 5, api.OK},
		{sp(0, 4), 5, api.OK},
		{sp(1, 5), 5, api.OK},
		{sp(4, 5), 5, api.OK},
		{sp(0, 1), 1, api.OK},
		{sp(0, math.MaxInt), math.MaxInt, api.OK},
		{sp(math.MaxInt, math.MaxInt), math.MaxInt, api.OK},
		{sp(3, 2), 5, api.ErrArg},
		{sp(5, 4), 5, api.ErrArg},
		{sp(5, 0), 5, api.ErrArg},
		{sp(-1, 2), 5, api.ErrArg},
		{sp(-1, -1), 5, api.ErrArg},
		{sp(0, -1), 5, api.ErrArg},
		{sp(0, 6), 5, api.ErrArg},
		{sp(6, 6), 5, api.ErrArg},
		{sp(6, 5), 5, api.ErrArg},
		{sp(0, 1), 0, api.ErrArg},
		{sp(1, 1), 0, api.ErrArg},
		{sp(1, 0), 0, api.ErrArg},
		{sp(0, 0), -1, api.ErrArg},
		{sp(-1, -1), -1, api.ErrArg},
		{sp(-2, -1), 0, api.ErrArg},
		{sp(0, 0), math.MinInt, api.ErrArg},
		{sp(math.MinInt, math.MinInt), math.MinInt, api.ErrArg},
		{sp(math.MinInt, math.MaxInt), math.MaxInt, api.ErrArg},
		{sp(math.MaxInt, math.MinInt), math.MaxInt, api.ErrArg},
		{sp(math.MaxInt, math.MaxInt), math.MaxInt - 1, api.ErrArg},
	} {
		if got := Check(x.s, x.n); got != x.want {
			t.Errorf("P4.1: Check(%v, %d): %d, want %d", x.s, x.n, got, x.want)
		}
	}
}

func TestCheck(t *testing.T) {
	for _, s := range samples() {
		for _, n := range numbers {
			want := api.ErrArg
			if mayBe(s, n) {
				want = api.OK
			}
			if got := Check(s, n); got != want {
				t.Fatalf("P4.1: Check(%v, %d): %d, want %d", s, n, got, want)
			}
		}
	}
}

func TestHull(t *testing.T) {
	for _, x := range []struct{ s, t, want api.Span }{
		{sp(2, 3), sp(5, 7), sp(2, 7)},
		{sp(5, 7), sp(2, 3), sp(2, 7)},
		{sp(1, 9), sp(3, 4), sp(1, 9)},
		{sp(3, 4), sp(1, 9), sp(1, 9)},
		{sp(1, 4), sp(3, 6), sp(1, 6)},
		{sp(1, 4), sp(1, 4), sp(1, 4)},
		{sp(1, 4), sp(4, 6), sp(1, 6)},
		{sp(0, 0), sp(4, 6), sp(0, 6)},
		{sp(5, 5), sp(5, 5), sp(5, 5)},
		{sp(9, 9), sp(4, 6), sp(4, 9)},
		// Those that may be of no text have a Hull, too.
		{sp(7, 2), sp(3, 4), sp(3, 4)},
		{sp(7, 2), sp(8, 1), sp(7, 2)},
		{sp(-3, -1), sp(-2, 5), sp(-3, 5)},
		{sp(math.MinInt, 0), sp(0, math.MaxInt), sp(math.MinInt, math.MaxInt)},
		{sp(math.MaxInt, math.MinInt), sp(math.MaxInt, math.MinInt), sp(math.MaxInt, math.MinInt)},
		{sp(math.MaxInt, math.MinInt), sp(math.MinInt, math.MaxInt), sp(math.MinInt, math.MaxInt)},
	} {
		if got := Hull(x.s, x.t); got != x.want {
			t.Errorf("P4.1: Hull(%v, %v): %v, want %v", x.s, x.t, got, x.want)
		}
	}
	for _, s := range samples() {
		for _, u := range samples() {
			if got, want := Hull(s, u), sp(min(s.From, u.From), max(s.To, u.To)); got != want {
				t.Fatalf("P4.1: Hull(%v, %v): %v, want %v", s, u, got, want)
			}
		}
	}
}

func TestAllByHand(t *testing.T) {
	for _, x := range []struct {
		l    []api.Span
		want api.Span
		e    api.Errno
	}{
		{nil, sp(0, 0), api.ErrNone},
		{[]api.Span{}, sp(0, 0), api.ErrNone},
		{[]api.Span{sp(1, 4)}, sp(1, 4), api.OK},
		{[]api.Span{sp(0, 0)}, sp(0, 0), api.OK},
		{[]api.Span{sp(3, 3)}, sp(3, 3), api.OK},
		{[]api.Span{sp(3, 3), sp(1, 2), sp(2, 9)}, sp(1, 9), api.OK},
		{[]api.Span{sp(1, 2), sp(3, 4)}, sp(1, 4), api.OK},
		{[]api.Span{sp(3, 4), sp(1, 2)}, sp(1, 4), api.OK},
		{[]api.Span{sp(4, 9), sp(5, 6), sp(7, 8)}, sp(4, 9), api.OK},
		{[]api.Span{sp(5, 6), sp(4, 9), sp(7, 8)}, sp(4, 9), api.OK},
		{[]api.Span{sp(5, 6), sp(7, 8), sp(4, 9)}, sp(4, 9), api.OK},
		{[]api.Span{sp(7, 9), sp(5, 6), sp(4, 5)}, sp(4, 9), api.OK},
		// Nothing is asked of them: they need be of no text.
		{[]api.Span{sp(5, 1)}, sp(5, 1), api.OK},
		{[]api.Span{sp(5, 1), sp(4, 2)}, sp(4, 2), api.OK},
		{[]api.Span{sp(-5, -4), sp(-3, -2)}, sp(-5, -2), api.OK},
		{[]api.Span{sp(math.MaxInt, math.MinInt)}, sp(math.MaxInt, math.MinInt), api.OK},
		{[]api.Span{sp(0, 0), sp(math.MinInt, 0), sp(0, math.MaxInt), sp(0, 0)}, sp(math.MinInt, math.MaxInt), api.OK},
	} {
		if got, e := All(x.l); got != x.want || e != x.e {
			t.Errorf("P4.1: All(%v): %v, %d, want %v, %d", x.l, got, e, x.want, x.e)
		}
	}
}

func TestAll(t *testing.T) {
	rows := rowsOf(few(), 2)
	rows = append(rows, rowsOf(spansOf(3), 4)...)
	rows = append(rows, samples())
	for _, l := range rows {
		want, e := allByHand(l)
		if got, err := All(l); got != want || err != e {
			t.Fatalf("P4.1: All(%v): %v, %d, want %v, %d", l, got, err, want, e)
		}
	}
}

func TestRiseByHand(t *testing.T) {
	for _, x := range []struct {
		l    []api.Span
		want bool
	}{
		{nil, true},
		{[]api.Span{}, true},
		{[]api.Span{sp(1, 4)}, true},
		{[]api.Span{sp(4, 1)}, true},
		{[]api.Span{sp(0, 1), sp(0, 1), sp(1, 1)}, true},
		{[]api.Span{sp(0, 1), sp(1, 2), sp(2, 3)}, true},
		{[]api.Span{sp(0, 5), sp(0, 6)}, true},
		{[]api.Span{sp(0, 5), sp(1, 5)}, true},
		{[]api.Span{sp(0, 9), sp(4, 9)}, true},
		// Only one end falls.
		{[]api.Span{sp(0, 2), sp(1, 1)}, false},
		{[]api.Span{sp(1, 1), sp(0, 2)}, false},
		{[]api.Span{sp(0, 2), sp(0, 1)}, false},
		{[]api.Span{sp(1, 2), sp(0, 2)}, false},
		// Both fall, by one.
		{[]api.Span{sp(1, 2), sp(0, 1)}, false},
		{[]api.Span{sp(5, 5), sp(4, 4)}, false},
		// It falls at the beginning, within, and at the end.
		{[]api.Span{sp(1, 1), sp(0, 1), sp(1, 2), sp(2, 3)}, false},
		{[]api.Span{sp(0, 1), sp(1, 3), sp(1, 2), sp(2, 3)}, false},
		{[]api.Span{sp(0, 1), sp(1, 2), sp(2, 3), sp(2, 2)}, false},
		{[]api.Span{sp(0, 1), sp(1, 2), sp(2, 3), sp(1, 3)}, false},
		// Spans that may be of no text rise, too, if their numbers do.
		{[]api.Span{sp(5, 1), sp(6, 2)}, true},
		{[]api.Span{sp(5, 2), sp(6, 1)}, false},
		{[]api.Span{sp(-2, -1), sp(-1, 0)}, true},
		{[]api.Span{sp(-1, 0), sp(-2, 0)}, false},
		// What lies far from one another does not wrap round.
		{[]api.Span{sp(math.MinInt, math.MinInt), sp(math.MaxInt, math.MaxInt)}, true},
		{[]api.Span{sp(math.MaxInt, 0), sp(math.MinInt, 0)}, false},
		{[]api.Span{sp(0, math.MaxInt), sp(0, math.MinInt)}, false},
		{[]api.Span{sp(0, math.MaxInt), sp(0, math.MaxInt)}, true},
	} {
		if got := Rise(x.l); got != x.want {
			t.Errorf("P4.2: Rise(%v): %v, want %v", x.l, got, x.want)
		}
	}
}

func TestRise(t *testing.T) {
	rows := rowsOf(samples(), 1)
	rows = append(rows, rowsOf(few(), 2)...)
	rows = append(rows, rowsOf(spansOf(3), 4)...)
	for _, l := range rows {
		if got, want := Rise(l), rises(l); got != want {
			t.Fatalf("P4.2: Rise(%v): %v, want %v", l, got, want)
		}
	}
}

func TestThroughExample(t *testing.T) {
	l := []api.Span{sp(0, 1), sp(1, 4), sp(1, 4)}
	if got, e := Through(l, sp(1, 3), 4); got != sp(1, 4) || e != api.OK {
		t.Errorf("P4.3: Through(%v, 1 3, 4): %v, %d", l, got, e)
	}
}

// TestThroughByHand: of the older text the first byte stayed, three became two, one came in at 5, and two changed places.
func TestThroughByHand(t *testing.T) {
	l := []api.Span{sp(0, 1), sp(2, 5), sp(2, 5), sp(5, 5), sp(7, 8), sp(6, 7)}
	for _, x := range []struct {
		l    []api.Span
		s    api.Span
		n    int
		want api.Span
	}{
		{l, sp(0, 1), 9, sp(0, 1)},
		{l, sp(1, 2), 9, sp(2, 5)},
		{l, sp(2, 3), 9, sp(2, 5)},
		{l, sp(1, 3), 9, sp(2, 5)},
		{l, sp(0, 3), 9, sp(0, 5)},
		{l, sp(3, 4), 9, sp(5, 5)},
		{l, sp(2, 4), 9, sp(2, 5)},
		{l, sp(3, 5), 9, sp(5, 8)},
		{l, sp(4, 6), 9, sp(6, 8)},
		{l, sp(5, 6), 9, sp(6, 7)},
		{l, sp(0, 6), 9, sp(0, 8)},
		{l, sp(0, 6), 8, sp(0, 8)},
		// Empty ones: at the beginning, within, and at the end.
		{l, sp(0, 0), 9, sp(0, 0)},
		{l, sp(1, 1), 9, sp(1, 1)},
		{l, sp(2, 2), 9, sp(5, 5)},
		{l, sp(3, 3), 9, sp(5, 5)},
		{l, sp(4, 4), 9, sp(5, 5)},
		{l, sp(5, 5), 9, sp(8, 8)},
		{l, sp(6, 6), 9, sp(7, 7)},
		{[]api.Span{sp(3, 4)}, sp(0, 0), 6, sp(3, 3)},
		{[]api.Span{sp(3, 4)}, sp(1, 1), 6, sp(4, 4)},
		{[]api.Span{sp(3, 4)}, sp(0, 1), 6, sp(3, 4)},
		{[]api.Span{sp(3, 3)}, sp(0, 0), 3, sp(3, 3)},
		{[]api.Span{sp(2, 5), sp(7, 9)}, sp(0, 0), 9, sp(2, 2)},
		{[]api.Span{sp(2, 5), sp(7, 9)}, sp(1, 1), 9, sp(5, 5)},
		// An empty text stood at 0, of whatever text; of an empty one all is there.
		{nil, sp(0, 0), 0, sp(0, 0)},
		{nil, sp(0, 0), 6, sp(0, 0)},
		{[]api.Span{}, sp(0, 0), math.MaxInt, sp(0, 0)},
		{[]api.Span{sp(0, 0), sp(0, 0)}, sp(0, 2), 0, sp(0, 0)},
		{[]api.Span{sp(0, 0), sp(0, 0)}, sp(1, 1), 0, sp(0, 0)},
		{[]api.Span{sp(0, math.MaxInt)}, sp(0, 1), math.MaxInt, sp(0, math.MaxInt)},
		{[]api.Span{sp(0, math.MaxInt)}, sp(1, 1), math.MaxInt, sp(math.MaxInt, math.MaxInt)},
		{[]api.Span{sp(math.MaxInt, math.MaxInt)}, sp(0, 0), math.MaxInt, sp(math.MaxInt, math.MaxInt)},
	} {
		if got, e := Through(x.l, x.s, x.n); got != x.want || e != api.OK {
			t.Errorf("P4.3: Through(%v, %v, %d): %v, %d, want %v", x.l, x.s, x.n, got, e, x.want)
		}
	}
}

// TestThroughErrors: whatever is wrong, and more than one thing, too, it is ErrArg, and never All's error.
func TestThroughErrors(t *testing.T) {
	l := []api.Span{sp(0, 1), sp(2, 5), sp(2, 5), sp(5, 5)}
	for _, x := range []struct {
		l []api.Span
		s api.Span
		n int
	}{
		{nil, sp(0, 0), -1},
		{nil, sp(0, 0), math.MinInt},
		{[]api.Span{}, sp(0, 0), -1},
		{[]api.Span{sp(0, 0)}, sp(0, 1), -1},
		{[]api.Span{sp(-1, -1)}, sp(0, 1), -1},
		{[]api.Span{sp(-1, -1)}, sp(0, 0), 0},
		// One of l is not there, at each place, in s, and out of it.
		{l, sp(0, 4), 4},
		{l, sp(0, 1), 4},
		{l, sp(0, 0), 4},
		{l, sp(4, 4), 4},
		{[]api.Span{sp(0, 1), sp(1, 2), sp(2, 5)}, sp(0, 1), 4},
		{[]api.Span{sp(0, 5), sp(1, 2), sp(2, 4)}, sp(1, 3), 4},
		{[]api.Span{sp(0, 1), sp(2, 1), sp(2, 4)}, sp(0, 1), 4},
		{[]api.Span{sp(0, 1), sp(2, 1), sp(2, 4)}, sp(1, 2), 4},
		{[]api.Span{sp(0, 1), sp(2, 1), sp(2, 4)}, sp(2, 3), 4},
		{[]api.Span{sp(-1, 1), sp(1, 2), sp(2, 4)}, sp(1, 3), 4},
		{[]api.Span{sp(0, 1), sp(1, 2), sp(-1, 4)}, sp(0, 0), 4},
		{[]api.Span{sp(5, 5)}, sp(0, 1), 4},
		{[]api.Span{sp(0, 1)}, sp(0, 1), 0},
		// s is not of the text.
		{l, sp(0, 5), 6},
		{l, sp(3, 5), 6},
		{l, sp(4, 5), 6},
		{l, sp(5, 5), 6},
		{l, sp(2, 1), 6},
		{l, sp(4, 0), 6},
		{l, sp(-1, 2), 6},
		{l, sp(-1, -1), 6},
		{l, sp(0, -1), 6},
		{l, sp(math.MinInt, math.MaxInt), 6},
		{l, sp(math.MaxInt, math.MinInt), 6},
		{l, sp(math.MinInt, math.MinInt), 6},
		{l, sp(math.MaxInt, math.MaxInt), math.MaxInt},
		{l, sp(0, math.MaxInt), math.MaxInt},
		{nil, sp(0, 1), 6},
		{nil, sp(1, 1), 6},
		{nil, sp(-1, -1), 6},
		{nil, sp(1, 0), 6},
		// More than one thing.
		{nil, sp(0, 1), -1},
		{l, sp(0, 5), 4},
		{l, sp(5, 2), -1},
	} {
		if got, e := Through(x.l, x.s, x.n); got != sp(0, 0) || e != api.ErrArg {
			t.Errorf("P4.3: Through(%v, %v, %d): %v, %d, want ErrArg", x.l, x.s, x.n, got, e)
		}
	}
}

func TestThrough(t *testing.T) {
	check := func(l []api.Span, s api.Span, n int) {
		want, e := throughByHand(l, s, n)
		if got, err := Through(l, s, n); got != want || err != e {
			t.Fatalf("P4.3: Through(%v, %v, %d): %v, %d, want %v, %d", l, s, n, got, err, want, e)
		}
	}
	for _, l := range rowsOf(spansOf(3), 4) {
		for from := -1; from <= len(l)+1; from++ {
			for to := -1; to <= len(l)+1; to++ {
				check(l, sp(from, to), 3)
			}
		}
		check(l, sp(0, len(l)), 2)
	}
	for _, s := range samples() {
		for _, n := range numbers {
			check(nil, s, n)
			check([]api.Span{s}, sp(0, 0), n)
			check([]api.Span{s}, sp(0, 1), n)
			check([]api.Span{sp(0, 0), s}, sp(0, 1), n)
			check([]api.Span{s, sp(0, 0)}, sp(1, 2), n)
			check([]api.Span{sp(0, 0), sp(0, 1)}, s, n)
		}
	}
}

func TestWhatFollowsOfHull(t *testing.T) {
	for _, s := range samples() {
		for _, u := range samples() {
			h := Hull(s, u)
			if h != Hull(u, s) {
				t.Fatalf("P4.4: Hull(%v, %v): %v, and %v", s, u, h, Hull(u, s))
			}
			if !isWithin(s, h) || !isWithin(u, h) {
				t.Fatalf("P4.4: %v and %v are not within %v", s, u, h)
			}
		}
	}
	for _, l := range rowsOf(few(), 3) {
		if len(l) < 3 {
			continue
		}
		first, last := Hull(Hull(l[0], l[1]), l[2]), Hull(l[0], Hull(l[1], l[2]))
		if all, e := All(l); first != last || first != all || e != api.OK {
			t.Fatalf("P4.4: the Hulls of %v: %v, %v, and All is %v", l, first, last, all)
		}
	}
}

// TestWhatFollowsOfThrough: all rows that rise, and all two spans that are not empty.
func TestWhatFollowsOfThrough(t *testing.T) {
	const n = 3
	for _, l := range rowsOf(spansOf(n), 4) {
		if !rises(l) {
			continue
		}
		for _, s := range spansOf(len(l)) {
			for _, u := range spansOf(len(l)) {
				if s.From == s.To || u.From == u.To {
					continue
				}
				a, e := Through(l, s, n)
				b, f := Through(l, u, n)
				if e != api.OK || f != api.OK {
					t.Fatalf("P4.4: Through(%v): %v: %d, %v: %d", l, s, e, u, f)
				}
				if Rise([]api.Span{s, u}) && !Rise([]api.Span{a, b}) {
					t.Fatalf("P4.4: Through(%v): %v, %v rise, %v, %v don't", l, s, u, a, b)
				}
				if isWithin(s, u) && !isWithin(a, b) {
					t.Fatalf("P4.4: Through(%v): %v is within %v, %v not within %v", l, s, u, a, b)
				}
			}
		}
	}
}

// TestThroughTwice: where a text stood that was turned twice is told step by step.
func TestThroughTwice(t *testing.T) {
	older := []api.Span{sp(0, 2), sp(0, 2), sp(2, 3), sp(5, 7)}
	newer := []api.Span{sp(0, 1), sp(1, 3), sp(3, 4)}
	var both []api.Span
	for _, s := range newer {
		u, e := Through(older, s, 8)
		if e != api.OK {
			t.Fatalf("P4.3: Through(%v, %v, 8): %d", older, s, e)
		}
		both = append(both, u)
	}
	if want := []api.Span{sp(0, 2), sp(0, 3), sp(5, 7)}; !slices.Equal(both, want) || !Rise(both) {
		t.Errorf("P4.4: %v, want %v", both, want)
	}
	if got, e := Through(both, sp(1, 3), 8); got != sp(0, 7) || e != api.OK {
		t.Errorf("P4.3: %v, %d", got, e)
	}
}

// TestLongRows: long rows end soon, and their last spans count (R1).
func TestLongRows(t *testing.T) {
	const n = 1 << 20
	l := make([]api.Span, n)
	for i := range l {
		l[i] = sp(i, i+1)
	}
	if got, e := All(l); got != sp(0, n) || e != api.OK {
		t.Errorf("P4.1: All of a long row: %v, %d", got, e)
	}
	if got, e := Through(l, sp(5, n), n); got != sp(5, n) || e != api.OK || !Rise(l) {
		t.Errorf("P4.2, P4.3: a long row: %v, %d", got, e)
	}
	if got, e := Through(l, sp(0, 1), n-1); got != sp(0, 0) || e != api.ErrArg {
		t.Errorf("P4.3: a long row whose last one is not there: %v, %d", got, e)
	}
	if l[n-1] = sp(n-3, n-3); Rise(l) {
		t.Error("P4.2: a long row whose last one falls")
	}
}

// TestListsAreLeft: a list that is handed in is not written into, nor its spare room (R2), and what was told before plays no part.
func TestListsAreLeft(t *testing.T) {
	l := []api.Span{sp(4, 5), sp(2, 9), sp(0, 1), sp(7, 8)}
	want := slices.Clone(l)
	for range 2 {
		for n := range l {
			part := l[:n]
			all, e := All(part)
			if x, f := allByHand(part); all != x || e != f {
				t.Errorf("R2: All(%v): %v, %d", part, all, e)
			}
			for _, s := range spansOf(n + 1) {
				got, e := Through(part, s, 9)
				if x, f := throughByHand(part, s, 9); got != x || e != f {
					t.Errorf("R2: Through(%v, %v, 9): %v, %d", part, s, got, e)
				}
			}
			if Rise(part) != rises(part) {
				t.Errorf("R2: Rise(%v)", part)
			}
			if !slices.Equal(l, want) {
				t.Fatalf("R2: %v, want %v", l, want)
			}
		}
	}
}
