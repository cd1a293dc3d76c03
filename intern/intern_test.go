package intern

import (
	"math"
	"slices"
	"testing"

	"whittle/api"
)

// edges has the least and the greatest numbers, of int and of the smaller kinds, and those beside them.
var edges = []int{
	math.MinInt, math.MinInt + 1, math.MinInt32 - 1, math.MinInt32, math.MinInt16, math.MinInt8 - 1, math.MinInt8,
	-2, -1, 0, 1, 2,
	math.MaxInt8, math.MaxInt8 + 1, math.MaxUint8, math.MaxUint8 + 1, math.MaxInt16 + 1, math.MaxUint16, math.MaxUint16 + 1,
	math.MaxInt32, math.MaxInt32 + 1, math.MaxUint32, math.MaxUint32 + 1, math.MaxInt - 1, math.MaxInt,
}

// rowsOver has all rows of up to most numbers of l, the short ones ahead.
func rowsOver(l []int, most int) [][]int {
	rows := [][]int{nil}
	for at := 0; at < len(rows) && len(rows[at]) < most; at++ {
		for _, n := range l {
			rows = append(rows, append(slices.Clone(rows[at]), n))
		}
	}
	return rows
}

// counted has the numbers from 0 on, n of them, by a step.
func counted(n, step int) []int {
	l := make([]int, n)
	for i := range l {
		l[i] = i * step
	}
	return l
}

// mixed has n numbers without order, of up to most unlike ones.
func mixed(n int, most uint64) []int {
	l := make([]int, n)
	x := uint64(n)
	for i := range l {
		x = x*6364136223846793005 + 1442695040888963407
		l[i] = int(x>>33%most) - int(most/2)
	}
	return l
}

// sortByHand puts each number ahead of the first one that is greater, if it isn't there.
func sortByHand(l []int) []int {
	var row []int
	for _, n := range l {
		if slices.Contains(row, n) {
			continue
		}
		at := 0
		for at < len(row) && row[at] < n {
			at++
		}
		row = slices.Insert(row, at, n)
	}
	return row
}

// compareByHand looks for the first place at which the rows are not the same.
func compareByHand(a, b []int) int {
	for i := 0; ; i++ {
		switch {
		case i == len(a) && i == len(b):
			return 0
		case i == len(a):
			return -1
		case i == len(b):
			return 1
		case a[i] < b[i]:
			return -1
		case a[i] > b[i]:
			return 1
		}
	}
}

// put puts l, and tells if it isn't answered n and isNew.
func put(t *testing.T, x *Table, l []int, n int, isNew bool) {
	t.Helper()
	if got, ok, e := x.Put(l); got != n || ok != isNew || e != api.OK {
		t.Errorf("P5.2: Put(%v): %d, %v, %d, want %d, %v, 0", l, got, ok, e, n, isNew)
	}
}

// find looks for l, and tells if it isn't answered n and isThere.
func find(t *testing.T, x *Table, l []int, n int, isThere bool) {
	t.Helper()
	if got, ok := x.Find(l); got != n || ok != isThere {
		t.Errorf("P5.2: Find(%v): %d, %v, want %d, %v", l, got, ok, n, isThere)
	}
}

// row asks for the row of a number, and tells if it isn't want.
func row(t *testing.T, x *Table, n int, want []int) {
	t.Helper()
	if got, e := x.Row(n); !slices.Equal(got, want) || e != api.OK {
		t.Errorf("P5.3: Row(%d): %v, %d, want %v", n, got, e, want)
	}
}

// noRow tells if there is a row of this number.
func noRow(t *testing.T, x *Table, n int) {
	t.Helper()
	if l, e := x.Row(n); len(l) != 0 || e != api.ErrArg {
		t.Errorf("P5.3: Row(%d): %v, %d, want none, %d", n, l, e, api.ErrArg)
	}
}

// size tells if there are not as many rows.
func size(t *testing.T, x *Table, want int) {
	t.Helper()
	if got := x.Size(); got != want {
		t.Errorf("P5.3: Size(): %d, want %d", got, want)
	}
}

func TestSortByHand(t *testing.T) {
	for _, x := range []struct{ l, want []int }{
		{nil, nil},
		{[]int{}, nil},
		{[]int{0}, []int{0}},
		{[]int{7}, []int{7}},
		{[]int{-7}, []int{-7}},
		{[]int{4, 4}, []int{4}},
		{[]int{4, 4, 4, 4, 4}, []int{4}},
		{[]int{2, 1, 2}, []int{1, 2}},
		{[]int{1, 2, 1}, []int{1, 2}},
		{[]int{1, 1, 2, 2, 3, 3}, []int{1, 2, 3}},
		{[]int{5, 4, 3, 2, 1}, []int{1, 2, 3, 4, 5}},
		{[]int{1, 2, 3, 4, 5}, []int{1, 2, 3, 4, 5}},
		{[]int{0, -1, 1, -2, 2}, []int{-2, -1, 0, 1, 2}},
		{[]int{10, 9, 100, 1}, []int{1, 9, 10, 100}},
		{[]int{256, 1, 65536, 0, 255}, []int{0, 1, 255, 256, 65536}},
		{[]int{math.MaxInt, math.MinInt}, []int{math.MinInt, math.MaxInt}},
		{[]int{math.MaxInt, 0, math.MinInt, math.MaxInt, math.MinInt}, []int{math.MinInt, 0, math.MaxInt}},
	} {
		if got := Sort(x.l); !slices.Equal(got, x.want) {
			t.Errorf("P5.1: Sort(%v): %v, want %v", x.l, got, x.want)
		}
	}
}

func TestSort(t *testing.T) {
	rows := rowsOver([]int{-2, 0, 1, 3, 300}, 5)
	rows = append(rows, rowsOver(edges, 2)...)
	for _, n := range []int{10, 11, 12, 13, 20, 63, 64, 65, 300, 2000} {
		rows = append(rows, mixed(n, 7), mixed(n, 1<<30), counted(n, -3), counted(n, 3), counted(n, 0))
	}
	for _, l := range rows {
		if got, want := Sort(l), sortByHand(l); !slices.Equal(got, want) {
			t.Fatalf("P5.1: Sort(%v): %v, want %v", l, got, want)
		}
	}
}

func TestSortOwnMemory(t *testing.T) {
	for _, l := range rowsOver([]int{3, 1, 2}, 4) {
		// The spare room of what is handed in has a mark.
		full := append(slices.Clone(l), 77, 78)
		given := full[:len(l)]
		kept := slices.Clone(full)
		got := Sort(given)
		if !slices.Equal(full, kept) {
			t.Errorf("R2: Sort(%v) wrote: %v", l, full)
		}
		want := slices.Clone(got)
		for i := range full {
			full[i] = 99
		}
		if !slices.Equal(got, want) {
			t.Errorf("P5.4: Sort(%v) shares what it was given: %v, want %v", l, got, want)
		}
		full = append(full[:0], kept...)
		for i := range got {
			got[i] = 55
		}
		_ = append(got, 55, 55)
		if !slices.Equal(full, kept) {
			t.Errorf("P5.4: Sort(%v) shares what it answered: %v", l, full)
		}
	}
}

func TestCompareByHand(t *testing.T) {
	for _, x := range []struct {
		a, b []int
		want int
	}{
		{nil, nil, 0},
		{nil, []int{}, 0},
		{[]int{}, nil, 0},
		{nil, []int{0}, -1},
		{nil, []int{-1}, -1},
		{nil, []int{math.MinInt}, -1},
		{[]int{0}, nil, 1},
		{[]int{-1}, nil, 1},
		{[]int{0}, []int{0}, 0},
		{[]int{1, 2, 3}, []int{1, 2, 3}, 0},
		{[]int{1}, []int{2}, -1},
		{[]int{2}, []int{1}, 1},
		{[]int{1}, []int{9}, -1},
		{[]int{9}, []int{1}, 1},
		// One begins the other one.
		{[]int{1, 2}, []int{1, 2, 3}, -1},
		{[]int{1, 2, 3}, []int{1, 2}, 1},
		{[]int{1, 2}, []int{1, 2, -3}, -1},
		{[]int{1, 2, -3}, []int{1, 2}, 1},
		{[]int{1}, []int{1, 2, 3, 4}, -1},
		// The first place, the last one, one within.
		{[]int{1, 5, 5}, []int{2, 5, 5}, -1},
		{[]int{2, 5, 5}, []int{1, 5, 5}, 1},
		{[]int{5, 5, 1}, []int{5, 5, 2}, -1},
		{[]int{5, 5, 2}, []int{5, 5, 1}, 1},
		{[]int{5, 1, 9}, []int{5, 2, 0}, -1},
		{[]int{5, 2, 0}, []int{5, 1, 9}, 1},
		// The longer one is the lesser one.
		{[]int{1, 9, 9}, []int{2}, -1},
		{[]int{2}, []int{1, 9, 9}, 1},
		{[]int{-3, 9}, []int{3}, -1},
		{[]int{3}, []int{-3, 9}, 1},
		// Rows are held against each other as they are, not sorted.
		{[]int{2, 1}, []int{1, 2}, 1},
		{[]int{1, 2}, []int{2, 1}, -1},
		{[]int{1, 1}, []int{1}, 1},
		{[]int{1, 1}, []int{1, 2}, -1},
		// Signs, and numbers whose difference is none.
		{[]int{-1}, []int{0}, -1},
		{[]int{-1}, []int{-2}, 1},
		{[]int{10}, []int{9}, 1},
		{[]int{256}, []int{1}, 1},
		{[]int{math.MinInt}, []int{math.MaxInt}, -1},
		{[]int{math.MaxInt}, []int{math.MinInt}, 1},
		{[]int{math.MinInt}, []int{1}, -1},
		{[]int{math.MaxInt}, []int{-1}, 1},
		{[]int{math.MinInt, math.MaxInt}, []int{math.MinInt, math.MaxInt}, 0},
		{[]int{0}, []int{math.MaxUint32 + 1}, -1},
	} {
		if got := Compare(x.a, x.b); got != x.want {
			t.Errorf("P5.1: Compare(%v, %v): %d, want %d", x.a, x.b, got, x.want)
		}
	}
}

func TestCompare(t *testing.T) {
	rows := rowsOver([]int{math.MinInt, -1, 0, 2, math.MaxInt}, 3)
	for _, n := range edges {
		rows = append(rows, []int{n}, []int{4, n}, []int{n, 4})
	}
	for _, a := range rows {
		for _, b := range rows {
			if got, want := Compare(a, b), compareByHand(a, b); got != want {
				t.Fatalf("P5.1: Compare(%v, %v): %d, want %d", a, b, got, want)
			}
		}
	}
}

func TestCompareLeavesRows(t *testing.T) {
	a, b := []int{3, 1, 2, 77}, []int{3, 1, 1, 78}
	Compare(a[:3], b[:3])
	if !slices.Equal(a, []int{3, 1, 2, 77}) || !slices.Equal(b, []int{3, 1, 1, 78}) {
		t.Errorf("R2: Compare wrote: %v, %v", a, b)
	}
}

func TestExample(t *testing.T) {
	x := New()
	put(t, x, []int{2, 1, 2}, 0, true)
	put(t, x, []int{1, 2}, 0, false)
	put(t, x, nil, 1, true)
}

func TestNew(t *testing.T) {
	x := New()
	if x == nil {
		t.Fatal("P5.2: New(): nil")
	}
	size(t, x, 0)
	find(t, x, nil, 0, false)
	find(t, x, []int{0}, 0, false)
	noRow(t, x, 0)
	// What one table has plays no part in another one.
	put(t, x, []int{4}, 0, true)
	put(t, x, []int{5}, 1, true)
	y := New()
	size(t, y, 0)
	find(t, y, []int{4}, 0, false)
	noRow(t, y, 0)
	put(t, y, []int{5}, 0, true)
	find(t, y, []int{4}, 0, false)
	row(t, y, 0, []int{5})
	row(t, x, 0, []int{4})
	find(t, x, []int{5}, 1, true)
	size(t, x, 2)
	size(t, y, 1)
}

func TestNilTable(t *testing.T) {
	var x *Table
	for _, l := range [][]int{nil, {}, {0}, {2, 1}} {
		if n, ok, e := x.Put(l); n != 0 || ok || e != api.ErrNil {
			t.Errorf("P5.2: nil.Put(%v): %d, %v, %d", l, n, ok, e)
		}
		find(t, x, l, 0, false)
	}
	for _, n := range []int{math.MinInt, -1, 0, 1, math.MaxInt} {
		if l, e := x.Row(n); len(l) != 0 || e != api.ErrNil {
			t.Errorf("P5.2: nil.Row(%d): %v, %d", n, l, e)
		}
	}
	size(t, x, 0)
}

func TestPutAndFind(t *testing.T) {
	x := New()
	rows := [][]int{{8, 3}, {3}, {8}, nil, {-1}, {0}, {math.MaxInt, math.MinInt}, {5, 5, 5}}
	for n, l := range rows {
		find(t, x, l, 0, false)
		size(t, x, n)
		noRow(t, x, n)
		put(t, x, l, n, true)
		find(t, x, l, n, true)
		put(t, x, l, n, false)
		size(t, x, n+1)
		row(t, x, n, sortByHand(l))
	}
	// In another order, and more often.
	for _, l := range [][]int{{3, 8}, {8, 3, 8}, {3, 3, 8, 8, 3}} {
		find(t, x, l, 0, true)
		put(t, x, l, 0, false)
	}
	put(t, x, []int{}, 3, false)
	find(t, x, []int{}, 3, true)
	put(t, x, []int{0, 0}, 5, false)
	find(t, x, []int{math.MinInt, math.MaxInt, math.MinInt}, 6, true)
	put(t, x, []int{5}, 7, false)
	find(t, x, []int{5, 5}, 7, true)
	// What was looked for, but not put, is not there.
	for range 2 {
		for _, l := range [][]int{{8, 3, 0}, {38}, {83}, {1}, {-8}, {math.MaxInt}, {math.MinInt}, {-1, 0}} {
			find(t, x, l, 0, false)
		}
	}
	size(t, x, len(rows))
	for n, l := range rows {
		row(t, x, n, sortByHand(l))
	}
}

func TestEmptyRowIsNoZero(t *testing.T) {
	x := New()
	put(t, x, []int{0}, 0, true)
	find(t, x, nil, 0, false)
	put(t, x, []int{}, 1, true)
	put(t, x, nil, 1, false)
	row(t, x, 1, nil)
	find(t, x, []int{0}, 0, true)
	size(t, x, 2)
}

// apart has groups of rows that a careless key takes for one another.
func apart() [][][]int {
	return [][][]int{
		// Digits without something between.
		{{12, 3}, {1, 23}, {123}, {1, 2, 3}, {-1, 23}, {-12, 3}, {1, -23}, {-123}},
		// Sums, products, and exclusive ors that are the same.
		{{1, 4}, {2, 3}, {0, 5}, {5}, {1, 6, 2}, {0}, nil, {-1, 1}, {-2, 2}, {-2, -1, 3}, {1, 2, 3}},
		// Signs.
		{{1}, {-1}, {1, -1}, {2, -1}, {-2, 1}, {-2, -1}, {1, 2}},
		// One begins another one.
		{{1}, {1, 2}, {1, 2, 3}, {1, 2, 3, 4}, {0}, {0, 1}, {0, 1, 2}, {0, 1, 2, 3}, {-1}, {-1, 0}},
		// The first number or the last one alone is another one, or one within.
		{{1, 7, 8, 9}, {2, 7, 8, 9}, {-1, 7, 8, 9}, {1, 7, 8, 10}, {1, 7, 8, 11}, {1, 7, 7, 9}, {1, 6, 8, 9}},
		// Numbers that are the same in their low bytes, or end with zero bytes.
		{{0}, {1 << 8}, {1 << 16}, {1 << 24}, {1 << 32}, {1 << 40}, {1 << 48}, {1 << 56}, {math.MinInt}, {0, 1 << 8}, {0, 1 << 32}, {0, 1}},
		{{1}, {1 + 1<<8}, {1 + 1<<16}, {1 + 1<<31}, {1 + 1<<32}, {1 + 1<<53}, {1 + 1<<62}, {math.MinInt + 1}},
		// Numbers beyond those of a rune: a text made of them would not tell them apart.
		{{0xd800}, {0xd801}, {0xdfff}, {0xfffd}, {0x110000}, {0x110001}, {-1}, {-2}},
	}
}

func TestRowsApart(t *testing.T) {
	for i, group := range apart() {
		x := New()
		n := 0
		var seen [][]int
		for _, l := range group {
			s := sortByHand(l)
			at := slices.IndexFunc(seen, func(r []int) bool { return slices.Equal(r, s) })
			if at >= 0 {
				put(t, x, l, at, false)
				continue
			}
			find(t, x, l, 0, false)
			put(t, x, l, n, true)
			seen = append(seen, s)
			n++
		}
		for at, l := range seen {
			find(t, x, l, at, true)
			row(t, x, at, l)
		}
		size(t, x, n)
		if t.Failed() {
			t.Fatalf("P5.4: group %d", i)
		}
	}
}

func TestEdgeNumbers(t *testing.T) {
	x := New()
	rows := rowsOver(edges, 2)
	var seen [][]int
	for _, l := range rows {
		s := sortByHand(l)
		at := slices.IndexFunc(seen, func(r []int) bool { return slices.Equal(r, s) })
		if at >= 0 {
			put(t, x, l, at, false)
			continue
		}
		put(t, x, l, len(seen), true)
		seen = append(seen, s)
	}
	size(t, x, len(seen))
	for at, s := range seen {
		row(t, x, at, s)
		find(t, x, s, at, true)
	}
}

func TestAllRows(t *testing.T) {
	// All rows of up to 5 of 5 numbers are as many rows as these have sets.
	x := New()
	var seen [][]int
	for _, l := range rowsOver([]int{3, -2, 30, 0, 1}, 5) {
		s := sortByHand(l)
		at := slices.IndexFunc(seen, func(r []int) bool { return slices.Equal(r, s) })
		isNew := at < 0
		if isNew {
			at = len(seen)
			seen = append(seen, s)
		}
		put(t, x, l, at, isNew)
		find(t, x, l, at, true)
	}
	size(t, x, 32)
	for at, s := range seen {
		row(t, x, at, s)
	}
}

func TestLongRows(t *testing.T) {
	x := New()
	// Rows of many numbers that are unlike at one place alone, near the front, within, and at the end.
	long := counted(5000, 2)
	put(t, x, long, 0, true)
	for n, at := range []int{0, 1, 31, 255, 256, 2500, 4998, 4999} {
		l := slices.Clone(long)
		l[at]++
		find(t, x, l, 0, false)
		put(t, x, l, n+1, true)
		slices.Reverse(l)
		put(t, x, l, n+1, false)
	}
	put(t, x, long[:4999], 9, true)
	put(t, x, long[1:], 10, true)
	put(t, x, append(slices.Clone(long), 10000), 11, true)
	put(t, x, append(slices.Clone(long), long...), 0, false)
	row(t, x, 0, long)
	row(t, x, 9, long[:4999])
	row(t, x, 10, long[1:])
	size(t, x, 12)
}

func TestTableThatNewDidNotMake(t *testing.T) {
	var x Table
	size(t, &x, 0)
	noRow(t, &x, 0)
	find(t, &x, nil, 0, false)
	put(t, &x, []int{2, 1}, 0, true)
	find(t, &x, []int{1, 2}, 0, true)
}

func TestFullTable(t *testing.T) {
	x := New()
	for n := range 4096 {
		put(t, x, []int{n, -n, n}, n, true)
		size(t, x, n+1)
	}
	for range 2 {
		for _, l := range [][]int{{4096}, {-4096, 4096}, {7}, {1, 2}, nil, {math.MinInt}} {
			if n, ok, e := x.Put(l); n != 0 || ok || e != api.ErrLong {
				t.Errorf("P5.2: Put(%v): %d, %v, %d, want 0, false, %d", l, n, ok, e, api.ErrLong)
			}
			find(t, x, l, 0, false)
			size(t, x, 4096)
			noRow(t, x, 4096)
		}
	}
	for n := range 4096 {
		put(t, x, []int{n, -n}, n, false)
		find(t, x, []int{-n, n}, n, true)
		row(t, x, n, sortByHand([]int{-n, n}))
	}
	size(t, x, 4096)
	noRow(t, x, -1)
	// A full table doesn't fill another one.
	put(t, New(), []int{4096}, 0, true)
}

func TestNoRow(t *testing.T) {
	x := New()
	for n := range 4 {
		for _, bad := range []int{math.MinInt, math.MinInt32, -2, -1, n, n + 1, 4095, 4096, 1 << 32, math.MaxInt} {
			noRow(t, x, bad)
		}
		put(t, x, []int{n * 3}, n, true)
		row(t, x, n, []int{n * 3})
		row(t, x, 0, []int{0})
	}
	size(t, x, 4)
}

func TestSizeCountsNewRows(t *testing.T) {
	x := New()
	for range 3 {
		x.Put([]int{1})
		x.Put([]int{1, 1})
		x.Find([]int{2})
		x.Row(5)
		size(t, x, 1)
	}
	x.Put(nil)
	x.Put([]int{})
	size(t, x, 2)
}

func TestHandedInIsLeft(t *testing.T) {
	x := New()
	for range 2 {
		for _, l := range rowsOver([]int{3, 1, 2}, 4) {
			// The spare room of what is handed in has a mark.
			full := append(slices.Clone(l), 77, 78)
			kept := slices.Clone(full)
			x.Find(full[:len(l)])
			if !slices.Equal(full, kept) {
				t.Errorf("R2: Find(%v) wrote: %v", l, full)
			}
			x.Put(full[:len(l)])
			if !slices.Equal(full, kept) {
				t.Errorf("R2: Put(%v) wrote: %v", l, full)
			}
		}
	}
}

func TestHandedInPlaysNoPart(t *testing.T) {
	x := New()
	l := []int{1, 2, 3}
	put(t, x, l, 0, true)
	l[0], l[1], l[2] = 9, 8, 7
	row(t, x, 0, []int{1, 2, 3})
	find(t, x, []int{1, 2, 3}, 0, true)
	find(t, x, l, 0, false)
	put(t, x, l, 1, true)
	l[2] = 100
	row(t, x, 0, []int{1, 2, 3})
	row(t, x, 1, []int{7, 8, 9})
	put(t, x, []int{8, 9, 7}, 1, false)
	// Of one that was there, and of one that was looked for.
	l = []int{2, 3, 1}
	put(t, x, l, 0, false)
	find(t, x, l, 0, true)
	l[0] = 55
	row(t, x, 0, []int{1, 2, 3})
	find(t, x, []int{1, 2, 3}, 0, true)
	size(t, x, 2)
}

func TestRowPlaysNoPart(t *testing.T) {
	x := New()
	put(t, x, []int{1, 2, 3}, 0, true)
	put(t, x, []int{4, 5}, 1, true)
	put(t, x, nil, 2, true)
	put(t, x, []int{6}, 3, true)
	for n, want := range [][]int{{1, 2, 3}, {4, 5}, nil, {6}} {
		a, _ := x.Row(n)
		b, _ := x.Row(n)
		for i := range a {
			a[i] = 50 + i
		}
		a = append(a, 60, 61, 62)
		if !slices.Equal(b, want) {
			t.Errorf("P5.3: Row(%d) shares another one's memory: %v", n, b)
		}
		row(t, x, n, want)
		find(t, x, want, n, true)
		put(t, x, want, n, false)
		find(t, x, a, 0, false)
	}
	row(t, x, 0, []int{1, 2, 3})
	row(t, x, 1, []int{4, 5})
	row(t, x, 2, nil)
	row(t, x, 3, []int{6})
	size(t, x, 4)
}
