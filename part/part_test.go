package part

import (
	"slices"
	"testing"

	"whittle/api"
	"whittle/set"
)

var full = set.Span(0, 255)

// rowsOfSets has rows of sets of all kinds, edges and some that are mixed.
func rowsOfSets() [][]api.Set {
	singles := make([]api.Set, 256)
	bits := make([]api.Set, 8)
	steps := make([]api.Set, 256)
	for b := range 256 {
		singles[255-b] = set.Of(byte(b))
		steps[b] = set.Span(0, byte(b))
		for i := range bits {
			if b>>i&1 == 1 {
				bits[i] = set.Any(bits[i], set.Of(byte(b)))
			}
		}
	}
	l := [][]api.Set{
		nil,
		{},
		{{}},
		{{}, {}, {}},
		{full},
		{full, full, {}},
		{set.Of('a')},
		{set.Of('a'), set.Of('a')},
		{set.Of('a'), set.Of('a', 'b')},
		{set.Of('a', 'b'), set.Of('a')},
		{set.Of(0)},
		{set.Of(255)},
		{set.Of(0, 255), {}, set.Of(63, 64)},
		{set.Span(0, 127), set.Span(64, 191), set.Span(128, 255)},
		{set.Span('a', 'z'), set.Span('0', '9'), set.Of('_'), set.Of('e'), full},
		singles,
		bits,
		bits[1:7],
		steps,
	}
	x := uint64(7)
	for n := range 24 {
		var row []api.Set
		for range n {
			var s api.Set
			for i := range s {
				x = x*6364136223846793005 + 1442695040888963407
				s[i] = x ^ x>>31
				// Sets with few bytes leave parts that are greater.
				if n%2 == 1 {
					s[i] &= x >> 7 & (x << 9)
				}
			}
			row = append(row, s)
		}
		l = append(l, row)
	}
	return l
}

// alike is the document's word for two bytes that are in the same ones of some sets.
func alike(l []api.Set, a, b byte) bool {
	for _, s := range l {
		if set.Has(s, a) != set.Has(s, b) {
			return false
		}
	}
	return true
}

// byHand tells the parts of l and each byte's part, as the document does, byte by byte.
func byHand(l []api.Set) ([]api.Set, []int) {
	var p []api.Set
	var leasts []byte
	class := make([]int, 256)
	for b := range 256 {
		at := slices.IndexFunc(leasts, func(a byte) bool { return alike(l, a, byte(b)) })
		if at < 0 {
			at = len(p)
			leasts = append(leasts, byte(b))
			p = append(p, api.Set{})
		}
		p[at][b/64] |= 1 << (b % 64)
		class[b] = at
	}
	return p, class
}

// withOnes is a class of 256 numbers that are 0 but for those that are told, a place and a number each.
func withOnes(l ...[2]int) []int {
	class := make([]int, 256)
	for _, x := range l {
		class[x[0]] = x[1]
	}
	return class
}

func TestParts(t *testing.T) {
	for i, l := range rowsOfSets() {
		want, _ := byHand(l)
		if got, e := Parts(l); !slices.Equal(got, want) || e != api.OK {
			t.Errorf("P2.1: %d: %x, %d, want %x", i, got, e, want)
		}
	}
}

func TestPartsByHand(t *testing.T) {
	for i, x := range []struct{ l, want []api.Set }{
		{nil, []api.Set{full}},
		{[]api.Set{}, []api.Set{full}},
		{[]api.Set{{}}, []api.Set{full}},
		{[]api.Set{full}, []api.Set{full}},
		{[]api.Set{{}, full, {}}, []api.Set{full}},
		{[]api.Set{set.Of('a')}, []api.Set{set.Not(set.Of('a')), set.Of('a')}},
		{[]api.Set{set.Of('a'), set.Of('a')}, []api.Set{set.Not(set.Of('a')), set.Of('a')}},
		{[]api.Set{set.Not(set.Of('a')), set.Of('a')}, []api.Set{set.Not(set.Of('a')), set.Of('a')}},
		{[]api.Set{set.Of(0)}, []api.Set{set.Of(0), set.Span(1, 255)}},
		{[]api.Set{set.Of(255)}, []api.Set{set.Span(0, 254), set.Of(255)}},
		{[]api.Set{set.Of('a'), set.Of('a', 'b')}, []api.Set{set.Not(set.Of('a', 'b')), set.Of('a'), set.Of('b')}},
		{[]api.Set{set.Span(0, 127), set.Of(0, 200)}, []api.Set{set.Of(0), set.Span(1, 127), set.Not(set.Any(set.Span(0, 127), set.Of(200))), set.Of(200)}},
	} {
		if got, e := Parts(x.l); !slices.Equal(got, x.want) || e != api.OK {
			t.Errorf("P2.1: %d: %x, %d, want %x", i, got, e, x.want)
		}
	}
}

// TestPartsHowMany: 1024 sets are taken, one more isn't, whatever they are.
func TestPartsHowMany(t *testing.T) {
	l := make([]api.Set, 1025)
	for i := range l {
		l[i] = set.Span(0, byte(i))
	}
	want, _ := byHand(l[:256])
	for _, n := range []int{1023, 1024} {
		if got, e := Parts(l[:n]); !slices.Equal(got, want) || e != api.OK {
			t.Errorf("P2.1: %d sets: %d parts, %d", n, len(got), e)
		}
	}
	// The last one of 1024 plays its part, too.
	last := make([]api.Set, 1024)
	last[1023] = set.Of('q')
	if got, e := Parts(last); !slices.Equal(got, []api.Set{set.Not(set.Of('q')), set.Of('q')}) || e != api.OK {
		t.Errorf("P2.1: the last one: %x, %d", got, e)
	}
	for _, l := range [][]api.Set{l, make([]api.Set, 1025), make([]api.Set, 5000)} {
		if got, e := Parts(l); len(got) != 0 || e != api.ErrLong {
			t.Errorf("P2.1: %d sets: %d parts, %d", len(l), len(got), e)
		}
	}
}

func TestClass(t *testing.T) {
	for i, l := range rowsOfSets() {
		p, want := byHand(l)
		if got, e := Class(p); !slices.Equal(got, want) || e != api.OK {
			t.Errorf("P2.2: %d: %v, %d, want %v", i, got, e, want)
		}
	}
	p, _ := Parts([]api.Set{set.Of('a'), set.Of('a', 'b')})
	if got, e := Class(p); !slices.Equal(got, withOnes([2]int{97, 1}, [2]int{98, 2})) || e != api.OK {
		t.Errorf("P2.2: the example: %v, %d", got, e)
	}
	if got, e := Class([]api.Set{full}); !slices.Equal(got, make([]int, 256)) || e != api.OK {
		t.Errorf("P2.2: all bytes: %v, %d", got, e)
	}
}

// noPartitions has rows of sets that are no partition, each by one fault.
func noPartitions() [][]api.Set {
	a, rest := set.Of('a'), set.Not(set.Of('a'))
	low, mid, high := set.Span(0, 99), set.Span(100, 199), set.Span(200, 255)
	singles := make([]api.Set, 256)
	for b := range 256 {
		singles[b] = set.Of(byte(b))
	}
	twice := append(slices.Clone(singles), set.Of(255))
	late := slices.Clone(singles)
	late[254], late[255] = late[255], late[254]
	return [][]api.Set{
		nil,
		{},
		{{}},
		{{}, {}},
		{full, {}},
		{{}, full},
		{rest, {}, a},
		{rest, a, {}},
		{full, full},
		{full, a},
		{rest, a, a},
		{rest, full},
		{rest},
		{a},
		{a, rest},
		{low, mid},
		{low, high},
		{mid, high},
		{mid, low, high},
		{low, high, mid},
		{high, mid, low},
		{low, set.Any(mid, set.Of(99)), high},
		{low, mid, set.Any(high, set.Of(0))},
		{set.Less(low, set.Of(0)), mid, high},
		{low, mid, set.Less(high, set.Of(255))},
		singles[1:],
		singles[:255],
		twice,
		late,
	}
}

func TestNoPartition(t *testing.T) {
	for i, p := range noPartitions() {
		if got, e := Class(p); len(got) != 0 || e != api.ErrArg {
			t.Errorf("P2.2: %d: Class of no partition: %v, %d", i, got, e)
		}
		for _, s := range []api.Set{{}, full, set.Of('a')} {
			if got, e := Over(p, s); len(got) != 0 || e != api.ErrArg {
				t.Errorf("P2.3: %d: Over no partition: %v, %d", i, got, e)
			}
		}
	}
}

func TestSets(t *testing.T) {
	for i, l := range rowsOfSets() {
		want, class := byHand(l)
		if got, e := Sets(class); !slices.Equal(got, want) || e != api.OK {
			t.Errorf("P2.2: %d: %x, %d, want %x", i, got, e, want)
		}
	}
	rising := make([]int, 256)
	for b := range rising {
		rising[b] = b
	}
	for i, x := range []struct {
		class []int
		want  []api.Set
	}{
		{make([]int, 256), []api.Set{full}},
		{withOnes([2]int{255, 1}), []api.Set{set.Span(0, 254), set.Of(255)}},
		{withOnes([2]int{1, 1}), []api.Set{set.Not(set.Of(1)), set.Of(1)}},
		{withOnes([2]int{7, 1}, [2]int{8, 2}, [2]int{9, 1}, [2]int{11, 3}), []api.Set{set.Not(set.Of(7, 8, 9, 11)), set.Of(7, 9), set.Of(8), set.Of(11)}},
	} {
		if got, e := Sets(x.class); !slices.Equal(got, x.want) || e != api.OK {
			t.Errorf("P2.2: %d: %x, %d, want %x", i, got, e, x.want)
		}
	}
	got, e := Sets(rising)
	if len(got) != 256 || e != api.OK || got[0] != set.Of(0) || got[255] != set.Of(255) {
		t.Errorf("P2.2: each byte's own: %d parts, %d", len(got), e)
	}
}

func TestNoClass(t *testing.T) {
	rising := make([]int, 257)
	for b := range rising {
		rising[b] = b
	}
	ones := slices.Repeat([]int{1}, 256)
	least, most := -1<<63, 1<<63-1
	for i, class := range [][]int{
		nil,
		{},
		{0},
		make([]int, 255),
		make([]int, 257),
		make([]int, 512),
		rising,
		rising[:255],
		rising[1:],
		ones,
		withOnes([2]int{0, 1}),
		withOnes([2]int{0, -1}),
		withOnes([2]int{0, most}),
		withOnes([2]int{0, least}),
		withOnes([2]int{1, 2}),
		withOnes([2]int{1, -1}),
		withOnes([2]int{1, most}),
		withOnes([2]int{255, 2}),
		withOnes([2]int{255, -1}),
		withOnes([2]int{255, least}),
		withOnes([2]int{4, 1}, [2]int{5, 3}),
		withOnes([2]int{4, 2}, [2]int{5, 1}),
		withOnes([2]int{4, 1}, [2]int{5, 2}, [2]int{6, 1}, [2]int{7, 4}),
		withOnes([2]int{4, 1}, [2]int{5, 2}, [2]int{6, -2}),
	} {
		if got, e := Sets(class); len(got) != 0 || e != api.ErrArg {
			t.Errorf("P2.2: %d: %x, %d", i, got, e)
		}
	}
}

func TestOver(t *testing.T) {
	p := []api.Set{set.Less(full, set.Of(0, 'a', 'b', 'c', 255)), set.Of('a', 'c'), set.Of('b'), set.Of(255)}
	p = append([]api.Set{set.Of(0)}, p...)
	for _, x := range []struct {
		s    api.Set
		want []int
		e    api.Errno
	}{
		{api.Set{}, nil, api.OK},
		{full, []int{0, 1, 2, 3, 4}, api.OK},
		{set.Of(0), []int{0}, api.OK},
		{set.Of(255), []int{4}, api.OK},
		{set.Of(255, 0), []int{0, 4}, api.OK},
		{set.Of('a', 'b', 'c'), []int{2, 3}, api.OK},
		{set.Of('c', 'a', 255), []int{2, 4}, api.OK},
		{set.Not(set.Of('b')), []int{0, 1, 2, 4}, api.OK},
		{set.Not(set.Of('a', 'c')), []int{0, 1, 3, 4}, api.OK},
		{set.Of('a'), nil, api.ErrArg},
		{set.Of('c'), nil, api.ErrArg},
		{set.Of('a', 'b'), nil, api.ErrArg},
		{set.Of(0, 1), nil, api.ErrArg},
		{set.Of(0, 'b', 'c'), nil, api.ErrArg},
		{set.Not(set.Of('a')), nil, api.ErrArg},
		{set.Not(set.Of(254)), nil, api.ErrArg},
	} {
		if got, e := Over(p, x.s); !slices.Equal(got, x.want) || e != x.e {
			t.Errorf("P2.3: %x: %v, %d, want %v, %d", x.s, got, e, x.want, x.e)
		}
	}
	if got, e := Over([]api.Set{full}, full); !slices.Equal(got, []int{0}) || e != api.OK {
		t.Errorf("P2.3: all bytes: %v, %d", got, e)
	}
	if got, e := Over([]api.Set{full}, set.Of(3)); len(got) != 0 || e != api.ErrArg {
		t.Errorf("P2.3: one byte of all: %v, %d", got, e)
	}
}

// TestOverParts: each choice of parts is told, and with one byte too many or too few of a part of several nothing is.
func TestOverParts(t *testing.T) {
	for i, l := range rowsOfSets() {
		p, _ := byHand(l)
		for choice := range uint64(64) {
			var s api.Set
			var want []int
			for at, part := range p {
				if choice*0x9E3779B97F4A7C15>>(at%60)&1 == 1 {
					s = set.Any(s, part)
					want = append(want, at)
				}
			}
			if got, e := Over(p, s); !slices.Equal(got, want) || e != api.OK {
				t.Fatalf("P2.3: %d: %v, %d, want %v", i, got, e, want)
			}
			for _, part := range p {
				if set.Size(part) == 1 {
					continue
				}
				b, _ := set.First(part)
				if got, e := Over(p, changed(s, b)); len(got) != 0 || e != api.ErrArg {
					t.Fatalf("P2.3: %d: %d of many: %v, %d", i, b, got, e)
				}
			}
		}
	}
}

// changed is s with the byte, if it was without, else without it.
func changed(s api.Set, b byte) api.Set {
	s[b/64] ^= 1 << (b % 64)
	return s
}

func TestWhatFollowsOfClass(t *testing.T) {
	for i, l := range rowsOfSets() {
		p, e := Parts(l)
		class, f := Class(p)
		if e != api.OK || f != api.OK {
			t.Fatalf("P2.4: %d: %d, %d", i, e, f)
		}
		again, e := Sets(class)
		if !slices.Equal(again, p) || e != api.OK {
			t.Errorf("P2.4: %d: Sets of Class: %x, %d, want %x", i, again, e, p)
		}
		back, e := Class(again)
		if !slices.Equal(back, class) || e != api.OK {
			t.Errorf("P2.4: %d: Class of Sets: %v, %d, want %v", i, back, e, class)
		}
		if same, e := Parts(p); !slices.Equal(same, p) || e != api.OK {
			t.Errorf("P2.4: %d: parts of parts: %x, %d, want %x", i, same, e, p)
		}
	}
}

func TestWhatFollowsOfParts(t *testing.T) {
	for i, l := range rowsOfSets() {
		p, _ := Parts(l)
		for _, s := range l {
			in, e := Over(p, s)
			if e != api.OK {
				t.Fatalf("P2.4: %d: %x is no parts: %d", i, s, e)
			}
			var together api.Set
			for _, at := range in {
				together = set.Any(together, p[at])
			}
			if together != s {
				t.Errorf("P2.4: %d: %x is %x together", i, s, together)
			}
		}
		more, _ := Parts(append(slices.Clone(l), set.Span('A', 'z'), set.Of(0, 'a', 255)))
		for _, s := range more {
			if !slices.ContainsFunc(p, func(t api.Set) bool { return set.Less(s, t) == (api.Set{}) }) {
				t.Errorf("P2.4: %d: %x is within no part", i, s)
			}
		}
	}
}

// TestListsAreLeft: lists that are handed in are not written into, nor their spare room, nor do answers share memory with them (R2).
func TestListsAreLeft(t *testing.T) {
	sets := []api.Set{set.Span(0, 99), set.Span(100, 255), set.Of(1), set.Of(2), set.Of(3)}
	before := slices.Clone(sets)
	p, _ := Parts(sets[:2])
	class, _ := Class(sets[:2])
	in, _ := Over(sets[:2], full)
	if !slices.Equal(sets, before) {
		t.Errorf("R2: %x", sets)
	}
	long := append(slices.Clone(class), 5, 6, 7)
	kept := slices.Clone(long)
	q, _ := Sets(long[:256])
	if !slices.Equal(long, kept) {
		t.Errorf("R2: %v", long)
	}
	p[0], q[1], class[0], in[0] = api.Set{9}, api.Set{9}, 9, 9
	if !slices.Equal(sets, before) || !slices.Equal(long, kept) {
		t.Errorf("R2: %x, %v", sets, long)
	}
	p, _ = Parts(sets[:2])
	class, _ = Class(sets[:2])
	in, _ = Over(sets[:2], full)
	if !slices.Equal(p, before[:2]) || !slices.Equal(class, kept[:256]) || !slices.Equal(in, []int{0, 1}) {
		t.Errorf("R2: %x, %v, %v", p, class, in)
	}
}
