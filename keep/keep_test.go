package keep

import (
	"math"
	"slices"
	"testing"
)

// P14.1
func TestPut(t *testing.T) {
	for _, c := range []struct {
		most      int
		put, want []int
	}{
		{2, []int{0, 9, 4}, []int{0, 9}},
		{3, nil, nil},
		{3, []int{5, 1, 3}, []int{1, 3, 5}},
		{3, []int{1, 3, 5, 7}, []int{1, 5, 7}},
		{3, []int{1, 4, 6, 8}, []int{1, 4, 8}},
		{3, []int{1, 4, 6, 5}, []int{1, 4, 6}},
		{3, []int{10, 20, 30, 0}, []int{0, 20, 30}},
		{3, []int{10, 12, 30, 0}, []int{0, 10, 30}},
		{1, []int{5, 6, 7}, []int{5}},
		{1, []int{5, 4, 6}, []int{4}},
		{0, []int{5, 4, 6}, []int{4}},
		{-7, []int{5, 4}, []int{4}},
		{2, []int{5, 5, 5, 6, 6}, []int{5, 6}},
		{2, []int{math.MinInt, math.MaxInt, 0}, []int{math.MinInt, 0}},
		{2, []int{math.MinInt, math.MaxInt, -1}, []int{math.MinInt, math.MaxInt}},
		{3, []int{math.MinInt, math.MaxInt, 0, 1}, []int{math.MinInt, 0, math.MaxInt}},
		{math.MaxInt, []int{3, 2, 1}, []int{1, 2, 3}},
	} {
		k := New[string](c.most)
		for _, at := range c.put {
			k.Put(at, "x")
		}
		if got := k.Times(); !slices.Equal(got, c.want) {
			t.Errorf("most %d, put %v: %v", c.most, c.put, got)
		}
	}
}

// P14.1, P14.2
func TestBest(t *testing.T) {
	k := New[string](4)
	if at, x, ok := k.Best(5); at != 0 || x != "" || ok {
		t.Error("nothing is kept")
	}
	k.Put(3, "old")
	k.Put(7, "seven")
	k.Put(3, "three")
	k.Put(-2, "two below")
	for _, c := range []struct {
		at, want int
		x        string
		ok       bool
	}{
		{math.MaxInt, 7, "seven", true}, {7, 7, "seven", true}, {6, 3, "three", true}, {3, 3, "three", true}, {2, -2, "two below", true},
		{-2, -2, "two below", true}, {-3, 0, "", false}, {math.MinInt, 0, "", false},
	} {
		if at, x, ok := k.Best(c.at); at != c.want || x != c.x || ok != c.ok {
			t.Errorf("Best(%d): %d %q %v", c.at, at, x, ok)
		}
	}
	times := k.Times()
	times[0] = 99
	if !slices.Equal(k.Times(), []int{-2, 3, 7}) {
		t.Error("what is told is the caller's own")
	}
}

// P14.1
func TestDrop(t *testing.T) {
	for at, want := range map[int][]int{math.MaxInt: {0, 5, 9}, 9: {0, 5, 9}, 8: {0, 5}, 5: {0, 5}, 0: {0}, -1: nil, math.MinInt: nil} {
		k := New[int](4)
		for _, x := range []int{0, 5, 9} {
			k.Put(x, x)
		}
		k.Drop(at)
		if got := k.Times(); !slices.Equal(got, want) {
			t.Errorf("Drop(%d): %v", at, got)
		}
		k.Put(2, 2)
		if n, x, ok := k.Best(2); n != 2 || x != 2 || !ok {
			t.Errorf("after Drop(%d): %d %d %v", at, n, x, ok)
		}
	}
}

// P14.2, by what it says: a plain keep beside it.
func TestPlainly(t *testing.T) {
	x := uint32(9)
	pick := func(n int) int { x = x*1664525 + 1013904223; return int(x>>16) % n }
	for most := range 6 {
		k := New[int](most)
		put := map[int]int{}
		for i := range 2000 {
			at := pick(60) - 10
			switch pick(6) {
			case 0:
				k.Drop(at)
			case 1, 2:
				got, v, ok := k.Best(at)
				want := -1
				for j, have := range k.Times() {
					if have <= at {
						want = j
					}
				}
				if ok != (want >= 0) || ok && (got != k.Times()[want] || v != put[got]) {
					t.Fatal(at, got, v, ok)
				}
			default:
				before := k.Times()
				put[at] = i
				k.Put(at, i)
				after := k.Times()
				if len(after) > max(most, 1) || !slices.IsSorted(after) || len(before) > 0 && after[0] != min(before[0], at) {
					t.Fatal(before, at, after)
				}
			}
		}
	}
}
