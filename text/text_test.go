package text

import (
	"slices"
	"strings"
	"testing"

	"whittle/api"
)

// textsOf has all texts of up to most bytes of the letters, the short ones ahead.
func textsOf(letters string, most int) []string {
	l := []string{""}
	for from := 0; from < len(l) && len(l[from]) < most; from++ {
		for i := range len(letters) {
			l = append(l, l[from]+letters[i:i+1])
		}
	}
	return l
}

// few has texts of edge bytes, of which 0 and 255 are no UTF-8 by themselves or are in its midst.
func few() []string { return textsOf("\x00a\xff", 3) }

// samples has few's texts and some others: UTF-8, parts of it, and longer ones that differ late, early, or by their length.
func samples() []string {
	long := strings.Repeat("abc", 100)
	return append(few(),
		"abc", "abd", "ab", "b",
		"\u00e9", "\u00e8", "\u00e9t\u00e9", "\xc3", "\xa9", "\xc3\x28", "\U0001f600", "\U0001f601", "\xf0\x9f\x98",
		"\xef\xbf\xbd", "\xff\xfe\xfd", "\xff\xfe", "\x00\x00\x00\x00", "\x80", "\x7f",
		long, long+"a", long+"d", "x"+long, long[1:], long[:len(long)-1]+"x",
	)
}

// begins is the document's word for a text that begins with another one, byte by byte.
func begins(s, front string) bool {
	if len(front) > len(s) {
		return false
	}
	for i := range len(front) {
		if s[i] != front[i] {
			return false
		}
	}
	return true
}

// lcpByHand tries each text with which the first one begins, the longest one ahead.
func lcpByHand(l []string) string {
	if len(l) == 0 {
		return ""
	}
	for n := len(l[0]); n > 0; n-- {
		front := l[0][:n]
		if !slices.ContainsFunc(l, func(s string) bool { return !begins(s, front) }) {
			return front
		}
	}
	return ""
}

// countByHand tries each place, from 0 to how many bytes s has.
func countByHand(s, part string) int {
	n := 0
	for at := 0; at <= len(s); at++ {
		if begins(s[at:], part) {
			n++
		}
	}
	return n
}

func TestLcpByHand(t *testing.T) {
	for _, x := range []struct {
		l    []string
		want string
	}{
		{nil, ""},
		{[]string{}, ""},
		{[]string{""}, ""},
		{[]string{"", ""}, ""},
		{[]string{"abc"}, "abc"},
		{[]string{"abc", "abc"}, "abc"},
		{[]string{"abc", "abc", "abc", "abc"}, "abc"},
		{[]string{"abc", "abd", "ab"}, "ab"},
		{[]string{"ab", "abd", "abc"}, "ab"},
		{[]string{"abc", "abcde"}, "abc"},
		{[]string{"abcde", "abc"}, "abc"},
		{[]string{"abc", ""}, ""},
		{[]string{"", "abc"}, ""},
		{[]string{"abc", "", "abc"}, ""},
		{[]string{"abc", "xbc"}, ""},
		{[]string{"abc", "abx"}, "ab"},
		{[]string{"abc", "abc", "x"}, ""},
		{[]string{"x", "abc", "abc"}, ""},
		{[]string{"abcd", "abxx", "abcd"}, "ab"},
		{[]string{"ab", "ba"}, ""},
		{[]string{"\x00"}, "\x00"},
		{[]string{"\x00", "\x00\x00"}, "\x00"},
		{[]string{"\x00", ""}, ""},
		{[]string{"\x00", "\xff"}, ""},
		{[]string{"\xff\x00a", "\xff\x00b"}, "\xff\x00"},
		{[]string{"\xff\xff", "\xff\xfe"}, "\xff"},
		// Texts are bytes: of two letters that begin with the same byte this one is told.
		{[]string{"\u00e9", "\u00e8"}, "\xc3"},
		{[]string{"\U0001f600", "\U0001f601"}, "\xf0\x9f\x98"},
		{[]string{"\xff", "\xef\xbf\xbd"}, ""},
		{[]string{"aB", "ab"}, "a"},
	} {
		if got := Lcp(x.l); got != x.want {
			t.Errorf("P3.1: Lcp(%q): %q, want %q", x.l, got, x.want)
		}
	}
}

func TestLcp(t *testing.T) {
	for _, a := range samples() {
		if got := Lcp([]string{a}); got != a {
			t.Errorf("P3.1: Lcp of %q alone: %q", a, got)
		}
		for _, b := range samples() {
			l := []string{a, b}
			if got, want := Lcp(l), lcpByHand(l); got != want {
				t.Fatalf("P3.1: Lcp(%q): %q, want %q", l, got, want)
			}
		}
	}
	for _, a := range few() {
		for _, b := range few() {
			for _, c := range few() {
				l := []string{a, b, c}
				if got, want := Lcp(l), lcpByHand(l); got != want {
					t.Fatalf("P3.1: Lcp(%q): %q, want %q", l, got, want)
				}
			}
		}
	}
}

func TestStripByHand(t *testing.T) {
	for _, x := range []struct {
		front, s, want string
		e              api.Errno
	}{
		{"ab", "abc", "c", api.OK},
		{"a", "abc", "bc", api.OK},
		{"abc", "abc", "", api.OK},
		{"", "abc", "abc", api.OK},
		{"", "", "", api.OK},
		{"a", "aaa", "aa", api.OK},
		{"\x00", "\x00\xff", "\xff", api.OK},
		{"\xff\x00", "\xff\x00", "", api.OK},
		{"\xc3", "\u00e9", "\xa9", api.OK},
		{"abc", "ab", "", api.ErrArg},
		{"a", "", "", api.ErrArg},
		{"\x00", "", "", api.ErrArg},
		{"\x00\x00", "\x00", "", api.ErrArg},
		{"b", "abc", "", api.ErrArg},
		{"bc", "abc", "", api.ErrArg},
		{"xbc", "abc", "", api.ErrArg},
		{"axc", "abc", "", api.ErrArg},
		{"abx", "abc", "", api.ErrArg},
		{"abx", "abcd", "", api.ErrArg},
		{"A", "abc", "", api.ErrArg},
		{"\xff", "\xef\xbf\xbd", "", api.ErrArg},
		{"\xff", "\xfe", "", api.ErrArg},
	} {
		if got, e := Strip(x.front, x.s); got != x.want || e != x.e {
			t.Errorf("P3.1: Strip(%q, %q): %q, %d, want %q, %d", x.front, x.s, got, e, x.want, x.e)
		}
	}
}

func TestStrip(t *testing.T) {
	for _, front := range samples() {
		for _, s := range samples() {
			got, e := Strip(front, s)
			if !begins(s, front) {
				if got != "" || e != api.ErrArg {
					t.Fatalf("P3.1: Strip(%q, %q): %q, %d", front, s, got, e)
				}
			} else if front+got != s || e != api.OK {
				t.Fatalf("P3.1: Strip(%q, %q): %q, %d", front, s, got, e)
			}
			if got, e := Strip(front, front+s); got != s || e != api.OK {
				t.Fatalf("P3.1: Strip(%q, %q): %q, %d, want %q", front, front+s, got, e, s)
			}
		}
	}
}

func TestLagAndFarByHand(t *testing.T) {
	for _, x := range []struct {
		a, b, c, d string
		far        int
	}{
		{"abc", "abd", "c", "d", 2},
		{"abc", "ab", "c", "", 1},
		{"ab", "abc", "", "c", 1},
		{"", "xy", "", "xy", 2},
		{"xy", "", "xy", "", 2},
		{"", "", "", "", 0},
		{"a", "a", "", "", 0},
		{"abc", "abc", "", "", 0},
		{"abc", "xbc", "abc", "xbc", 6},
		{"abc", "axc", "bc", "xc", 4},
		{"aab", "ab", "ab", "b", 3},
		{"aa", "aaaa", "", "aa", 2},
		{"\x00", "", "\x00", "", 1},
		{"\x00", "\xff", "\x00", "\xff", 2},
		{"\xff\x00", "\xff\xff", "\x00", "\xff", 2},
		{"\u00e9", "\u00e8", "\xa9", "\xa8", 2},
	} {
		if c, d := Lag(x.a, x.b); c != x.c || d != x.d {
			t.Errorf("P3.1: Lag(%q, %q): %q, %q, want %q, %q", x.a, x.b, c, d, x.c, x.d)
		}
		if got := Far(x.a, x.b); got != x.far {
			t.Errorf("P3.2: Far(%q, %q): %d, want %d", x.a, x.b, got, x.far)
		}
	}
}

func TestLagAndFar(t *testing.T) {
	for _, a := range samples() {
		for _, b := range samples() {
			n := len(lcpByHand([]string{a, b}))
			if c, d := Lag(a, b); c != a[n:] || d != b[n:] {
				t.Fatalf("P3.1: Lag(%q, %q): %q, %q", a, b, c, d)
			}
			if got, want := Far(a, b), len(a[n:])+len(b[n:]); got != want {
				t.Fatalf("P3.2: Far(%q, %q): %d, want %d", a, b, got, want)
			}
		}
	}
}

func TestCountByHand(t *testing.T) {
	for _, x := range []struct {
		s, part string
		want    int
	}{
		{"aaa", "aa", 2},
		{"aaaa", "aa", 3},
		{"aaaaa", "aaa", 3},
		{"abab", "ab", 2},
		{"ababa", "aba", 2},
		{"abaababaab", "abaab", 2},
		{"aabaabaa", "aabaa", 2},
		{"aaab", "aab", 1},
		{"aabaaab", "aaab", 1},
		{"abc", "abc", 1},
		{"abc", "a", 1},
		{"abc", "c", 1},
		{"abc", "bc", 1},
		{"abc", "ac", 0},
		{"abc", "x", 0},
		{"abc", "abx", 0},
		{"abc", "abcd", 0},
		{"a", "aa", 0},
		{"", "a", 0},
		{"", "\x00", 0},
		{"abc", "", 4},
		{"a", "", 2},
		{"", "", 1},
		{"\x00\x00\x00", "\x00", 3},
		{"\x00\x00\x00", "\x00\x00", 2},
		{"\xff\x00\xff\x00\xff", "\xff\x00\xff", 2},
		{"\xff", "\xef\xbf\xbd", 0},
		// Places are bytes' places, letters of two bytes have two.
		{"\u00e9", "", 3},
		{"\u00e9\u00e9", "\xa9\xc3", 1},
		{"aAa", "a", 2},
	} {
		if got := Count(x.s, x.part); got != x.want {
			t.Errorf("P3.2: Count(%q, %q): %d, want %d", x.s, x.part, got, x.want)
		}
	}
}

func TestCount(t *testing.T) {
	for _, letters := range []string{"ab", "\x00\xff"} {
		for _, s := range textsOf(letters, 9) {
			for _, part := range textsOf(letters, 6) {
				if got, want := Count(s, part), countByHand(s, part); got != want {
					t.Fatalf("P3.2: Count(%q, %q): %d, want %d", s, part, got, want)
				}
			}
		}
	}
	for _, s := range samples() {
		for _, part := range samples() {
			if got, want := Count(s, part), countByHand(s, part); got != want {
				t.Fatalf("P3.2: Count(%q, %q): %d, want %d", s, part, got, want)
			}
		}
	}
}

// TestCountOfRepeats: parts whose ends are beginnings of them, in texts that go on as they do, or break off.
func TestCountOfRepeats(t *testing.T) {
	words := []string{"a", "b"}
	for len(words) < 13 {
		words = append(words, words[len(words)-1]+words[len(words)-2])
	}
	s := words[12] + "a" + words[11] + words[12] + strings.Repeat(words[5], 20)
	parts := append(textsOf("ab", 7), words[2:11]...)
	parts = append(parts, strings.Repeat(words[5], 19), words[10]+words[10], s[100:250], s[len(s)-90:], s[:77], s, s+"a", "a"+s)
	for _, part := range parts {
		if got, want := Count(s, part), countByHand(s, part); got != want {
			t.Errorf("P3.2: Count(s, %q): %d, want %d", part, got, want)
		}
	}
}

// TestLongTexts: long texts, and a long row, end soon, too (R1).
func TestLongTexts(t *testing.T) {
	const n = 1 << 21
	a := strings.Repeat("a", n)
	for _, x := range []struct {
		s, part string
		want    int
	}{
		{a, a[:n/2], n/2 + 1},
		{a, a, 1},
		{a, a + "a", 0},
		{a, a[:n/2] + "b", 0},
		{a, "b" + a[:n/2], 0},
		{a + "b", a[:n/2] + "b", 1},
		{a, "", n + 1},
		{strings.Repeat("ab", n/2), strings.Repeat("ab", n/4), n/4 + 1},
	} {
		if got := Count(x.s, x.part); got != x.want {
			t.Errorf("P3.2: Count of %d and %d bytes: %d, want %d", len(x.s), len(x.part), got, x.want)
		}
	}
	if c, d := Lag(a+"c", a+"d"); c != "c" || d != "d" || Far(a+"c", a+"d") != 2 || Far(a, "") != n {
		t.Errorf("P3.1, P3.2: Lag and Far of %d bytes", n)
	}
	row := slices.Repeat([]string{a[:50] + "c", a[:60], a[:50]}, 50000)
	if got := Lcp(row); got != a[:50] {
		t.Errorf("P3.1: Lcp of a long row: %q", got)
	}
	if got := Lcp(append(row, a[:49]+"c")); got != a[:49] {
		t.Errorf("P3.1: the last one of a long row: %q", got)
	}
}

func TestWhatFollowsOfLag(t *testing.T) {
	for _, a := range samples() {
		for _, b := range samples() {
			c, d := Lag(a, b)
			if x, y := Lag(c, d); x != c || y != d {
				t.Fatalf("P3.3: Lag of Lag(%q, %q): %q, %q", a, b, x, y)
			}
			for _, front := range []string{"a", "\x00", "\xff", "abc", a, b} {
				if x, y := Lag(front+a, front+b); x != c || y != d {
					t.Fatalf("P3.3: Lag(%q, %q) with %q ahead: %q, %q", a, b, front, x, y)
				}
			}
		}
	}
}

func TestWhatFollowsOfFar(t *testing.T) {
	for _, a := range samples() {
		for _, b := range samples() {
			far := Far(a, b)
			if (far == 0) != (a == b) || far < 0 || far != Far(b, a) {
				t.Fatalf("P3.3: Far(%q, %q): %d, back %d", a, b, far, Far(b, a))
			}
			for _, c := range samples() {
				if detour := Far(a, c) + Far(c, b); detour < far {
					t.Fatalf("P3.3: Far(%q, %q): %d, by %q: %d", a, b, far, c, detour)
				}
			}
		}
	}
}

// TestWhatFollowsOfLcp: a row is parted at each two places, into parts that are not empty.
func TestWhatFollowsOfLcp(t *testing.T) {
	l := samples()
	for from := range l {
		for _, step := range []int{1, 3, 7} {
			var row []string
			for i := from; i < len(l) && len(row) < 6; i += step {
				row = append(row, "fr\xff"+l[i])
			}
			want := Lcp(row)
			for i := 1; i < len(row); i++ {
				if got := Lcp([]string{Lcp(row[:i]), Lcp(row[i:])}); got != want {
					t.Fatalf("P3.3: Lcp(%q), parted at %d: %q, want %q", row, i, got, want)
				}
				for j := i + 1; j < len(row); j++ {
					if got := Lcp([]string{Lcp(row[:i]), Lcp(row[i:j]), Lcp(row[j:])}); got != want {
						t.Fatalf("P3.3: Lcp(%q), parted at %d and %d: %q, want %q", row, i, j, got, want)
					}
				}
			}
		}
	}
}

// TestListsAreLeft: a list that is handed in is not written into, nor its spare room (R2).
func TestListsAreLeft(t *testing.T) {
	l := []string{"abc", "abd", "b", "ab"}
	got := Lcp(l[:2])
	if !slices.Equal(l, []string{"abc", "abd", "b", "ab"}) {
		t.Errorf("R2: %q", l)
	}
	if l[0] = "x"; got != "ab" || Lcp(l[1:2]) != "abd" || Lcp(l[1:2:2]) != "abd" {
		t.Errorf("R2: %q", got)
	}
}
