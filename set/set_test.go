package set

import (
	"slices"
	"testing"

	"whittle/api"
)

// all is the set of all bytes, written out by its four numbers.
var all = api.Set{^uint64(0), ^uint64(0), ^uint64(0), ^uint64(0)}

// in is the document's word for a byte that is in a set, for each byte.
func in(s api.Set) [256]bool {
	var l [256]bool
	for b := range 256 {
		l[b] = s[b/64]&(1<<(b%64)) != 0
	}
	return l
}

// samples has edges and sets of all kinds: none, all, bytes at the borders of the four numbers, and some that are mixed.
func samples() []api.Set {
	l := []api.Set{
		{},
		all,
		{1, 0, 0, 0},
		{0, 0, 0, 1 << 63},
		{1 << 63, 1, 0, 0},
		{0, 1 << 63, 1, 0},
		{0, 0, 1 << 63, 1},
		{1, 0, 0, 1 << 63},
		{^uint64(0), 0, ^uint64(0), 0},
		{0x5555555555555555, 0x5555555555555555, 0x5555555555555555, 0x5555555555555555},
		{^uint64(1), ^uint64(0), ^uint64(0), ^uint64(0) >> 1},
	}
	x := uint64(1)
	for range 40 {
		var s api.Set
		for i := range s {
			x = x*6364136223846793005 + 1442695040888963407
			s[i] = x ^ x>>29
		}
		l = append(l, s, api.Set{s[0] & s[1] & s[2], 0, s[1] & s[2] & s[3], 0})
	}
	return l
}

func TestOf(t *testing.T) {
	for _, x := range []struct {
		b    []byte
		want api.Set
	}{
		{nil, api.Set{}},
		{[]byte{}, api.Set{}},
		{[]byte{0}, api.Set{1, 0, 0, 0}},
		{[]byte{255}, api.Set{0, 0, 0, 1 << 63}},
		{[]byte{63}, api.Set{1 << 63, 0, 0, 0}},
		{[]byte{64}, api.Set{0, 1, 0, 0}},
		{[]byte{127, 128}, api.Set{0, 1 << 63, 1, 0}},
		{[]byte{191, 192}, api.Set{0, 0, 1 << 63, 1}},
		{[]byte{64, 63, 64, 63}, api.Set{1 << 63, 1, 0, 0}},
		{[]byte{97, 98, 0, 255}, api.Set{1, 3 << 33, 0, 1 << 63}},
	} {
		if got := Of(x.b...); got != x.want {
			t.Errorf("P1.1: Of(%v): %x, want %x", x.b, got, x.want)
		}
	}
	var each []byte
	for b := range 256 {
		each = append(each, byte(255-b))
	}
	if got := Of(each...); got != all {
		t.Errorf("P1.1: Of all: %x", got)
	}
}

// TestOfLeavesItsList: a list that is handed in is not written into, nor its spare room (R2).
func TestOfLeavesItsList(t *testing.T) {
	l := []byte{9, 7, 9, 3, 5}
	Of(l[:2]...)
	if !slices.Equal(l, []byte{9, 7, 9, 3, 5}) {
		t.Errorf("R2: %v", l)
	}
}

func TestSpan(t *testing.T) {
	for from := range 256 {
		for to := range 256 {
			got := in(Span(byte(from), byte(to)))
			for b := range 256 {
				if want := from <= b && b <= to; got[b] != want {
					t.Fatalf("P1.1: Span(%d, %d): %d is %v", from, to, b, got[b])
				}
			}
		}
	}
	for _, x := range []struct {
		from, to byte
		want     api.Set
	}{
		{0, 0, api.Set{1, 0, 0, 0}},
		{255, 255, api.Set{0, 0, 0, 1 << 63}},
		{63, 64, api.Set{1 << 63, 1, 0, 0}},
		{0, 255, all},
		{64, 63, api.Set{}},
		{255, 0, api.Set{}},
	} {
		if got := Span(x.from, x.to); got != x.want {
			t.Errorf("P1.1: Span(%d, %d): %x, want %x", x.from, x.to, got, x.want)
		}
	}
}

func TestHas(t *testing.T) {
	for _, s := range samples() {
		want := in(s)
		for b := range 256 {
			if got := Has(s, byte(b)); got != want[b] {
				t.Fatalf("P1.1: Has(%x, %d): %v", s, b, got)
			}
		}
	}
	for _, b := range []byte{0, 63, 64, 97, 255} {
		if Has(api.Set{}, b) || !Has(all, b) || !Has(Of(b), b) || Has(Of(b), b^1) {
			t.Errorf("P1.1: Has of %d", b)
		}
	}
}

func TestTwoSets(t *testing.T) {
	for _, x := range samples() {
		for _, y := range samples() {
			inX, inY := in(x), in(y)
			both, any, less := in(Both(x, y)), in(Any(x, y)), in(Less(x, y))
			for b := range 256 {
				if both[b] != (inX[b] && inY[b]) {
					t.Fatalf("P1.2: Both(%x, %x) at %d", x, y, b)
				}
				if any[b] != (inX[b] || inY[b]) {
					t.Fatalf("P1.2: Any(%x, %x) at %d", x, y, b)
				}
				if less[b] != (inX[b] && !inY[b]) {
					t.Fatalf("P1.2: Less(%x, %x) at %d", x, y, b)
				}
			}
		}
	}
}

func TestNotAndSize(t *testing.T) {
	for _, s := range samples() {
		inS, not := in(s), in(Not(s))
		n := 0
		for b := range 256 {
			if not[b] == inS[b] {
				t.Fatalf("P1.2: Not(%x) at %d", s, b)
			}
			if inS[b] {
				n++
			}
		}
		if got := Size(s); got != n {
			t.Errorf("P1.2: Size(%x): %d, want %d", s, got, n)
		}
	}
	if Not(api.Set{}) != all || Not(all) != (api.Set{}) {
		t.Error("P1.2: Not of none and of all")
	}
	if Size(api.Set{}) != 0 || Size(all) != 256 || Size(Of(0, 63, 64, 255)) != 4 {
		t.Error("P1.2: Size of none, of all, and of four")
	}
}

func TestFirst(t *testing.T) {
	for _, s := range samples() {
		at := slices.Index(sliceOf(in(s)), true)
		got, ok := First(s)
		if ok != (at >= 0) || ok && int(got) != at || !ok && got != 0 {
			t.Errorf("P1.2: First(%x): %d, %v, want %d", s, got, ok, at)
		}
	}
	for b := range 256 {
		if got, ok := First(Span(byte(b), 255)); int(got) != b || !ok {
			t.Errorf("P1.2: First from %d on: %d, %v", b, got, ok)
		}
	}
	if got, ok := First(api.Set{}); got != 0 || ok {
		t.Errorf("P1.2: First of none: %d, %v", got, ok)
	}
}

func sliceOf(l [256]bool) []bool { return l[:] }

// rowsByBytes tells the rows of s as the document does, byte by byte.
func rowsByBytes(s api.Set) [][2]byte {
	var l [][2]byte
	inS := in(s)
	for b := range 256 {
		if !inS[b] {
			continue
		}
		if b > 0 && inS[b-1] {
			l[len(l)-1][1] = byte(b)
		} else {
			l = append(l, [2]byte{byte(b), byte(b)})
		}
	}
	return l
}

func TestRows(t *testing.T) {
	for _, x := range []struct {
		s    api.Set
		want [][2]byte
	}{
		{Of(97, 98, 0, 255), [][2]byte{{0, 0}, {97, 98}, {255, 255}}},
		{api.Set{}, nil},
		{all, [][2]byte{{0, 255}}},
		{Of(0), [][2]byte{{0, 0}}},
		{Of(255), [][2]byte{{255, 255}}},
		{Of(254, 255), [][2]byte{{254, 255}}},
		{Of(63, 64), [][2]byte{{63, 64}}},
		{Of(63, 65), [][2]byte{{63, 63}, {65, 65}}},
		{Of(62, 64), [][2]byte{{62, 62}, {64, 64}}},
		{Not(Of(64)), [][2]byte{{0, 63}, {65, 255}}},
		{Not(Of(0, 255)), [][2]byte{{1, 254}}},
		{Any(Span(10, 200), Span(202, 210)), [][2]byte{{10, 200}, {202, 210}}},
	} {
		if got := Rows(x.s); !slices.Equal(got, x.want) {
			t.Errorf("P1.3: Rows(%x): %v, want %v", x.s, got, x.want)
		}
	}
	for _, s := range samples() {
		if got, want := Rows(s), rowsByBytes(s); !slices.Equal(got, want) {
			t.Errorf("P1.3: Rows(%x): %v, want %v", s, got, want)
		}
	}
}

// TestRowsAreNew: rows that came out share no memory with others, and what is written into them plays no part later (R2).
func TestRowsAreNew(t *testing.T) {
	s := Of(1, 2, 9)
	want := [][2]byte{{1, 2}, {9, 9}}
	first, second := Rows(s), Rows(s)
	first[0] = [2]byte{200, 201}
	if !slices.Equal(second, want) || !slices.Equal(Rows(s), want) {
		t.Errorf("R2: %v, %v", second, Rows(s))
	}
	Rows(Of(50, 60, 70))
	if !slices.Equal(second, want) {
		t.Errorf("R2: %v", second)
	}
}

// TestRowsBrokenOff: who ranges over the rows may leave at each of them.
func TestRowsBrokenOff(t *testing.T) {
	s := Of(1, 3, 5, 255)
	want := Rows(s)
	for most := range want {
		var got [][2]byte
		for row := range rows(s) {
			got = append(got, row)
			if len(got) == most+1 {
				break
			}
		}
		if !slices.Equal(got, want[:most+1]) {
			t.Errorf("P1.3: left at %d: %v", most, got)
		}
	}
}

func TestWhatFollowsOfNot(t *testing.T) {
	for _, x := range samples() {
		if Not(Not(x)) != x {
			t.Errorf("P1.4: Not of Not of %x", x)
		}
		for _, y := range samples() {
			if Not(Any(x, y)) != Both(Not(x), Not(y)) {
				t.Errorf("P1.4: Not of Any of %x, %x", x, y)
			}
		}
	}
}

func TestWhatFollowsOfRows(t *testing.T) {
	for _, s := range samples() {
		var together api.Set
		for _, row := range Rows(s) {
			together = Any(together, Span(row[0], row[1]))
		}
		if together != s {
			t.Errorf("P1.4: the rows of %x are %x together", s, together)
		}
	}
	for from := range 256 {
		for to := range 256 {
			got := Rows(Span(byte(from), byte(to)))
			if from > to && len(got) != 0 || from <= to && !slices.Equal(got, [][2]byte{{byte(from), byte(to)}}) {
				t.Fatalf("P1.4: Rows of Span(%d, %d): %v", from, to, got)
			}
		}
	}
}
