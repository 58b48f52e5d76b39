package heap

import (
	"math"
	"reflect"
	"testing"

	"furcate/api"
)

// P10.1
func TestMake(t *testing.T) {
	h := New()
	for _, c := range []struct{ n, at, trap int }{
		{-1, 0, api.TrapSize}, {17, 0, api.TrapSize}, {math.MinInt, 0, api.TrapSize}, {math.MaxInt, 0, api.TrapSize},
		{16, 1, 0}, {0, 2, 0}, {16, 3, 0}, // 35 cells
		{5, 0, api.TrapCells}, {17, 0, api.TrapSize}, {4, 4, 0}, {0, 0, api.TrapCells}, {-1, 0, api.TrapSize},
	} {
		if at, trap := h.Make(c.n); at != c.at || trap != c.trap {
			t.Errorf("Make(%d): %d %d", c.n, at, trap)
		}
	}
	for at, want := range map[int]int{1: 16, 2: 0, 3: 16, 4: 4, 0: 0, 5: 0, -1: 0, math.MaxInt: 0, math.MinInt: 0} {
		if h.Len(at) != want {
			t.Errorf("Len(%d): %d", at, h.Len(at))
		}
	}
	h = New()
	for i := range 40 {
		if at, trap := h.Make(0); at != i+1 || trap != 0 {
			t.Fatal(at, trap)
		}
	}
	if _, trap := h.Make(0); trap != api.TrapCells {
		t.Error(trap)
	}
}

// P10.1, P10.3
func TestGetPut(t *testing.T) {
	h := New()
	h.Make(2)
	h.Make(0)
	h.Make(3)
	if h.Put(1, 1, 7) != 0 || h.Put(3, 0, -8) != 0 || h.Put(3, 2, math.MaxInt) != 0 || h.Put(1, 1, 9) != 0 {
		t.Error("these are places")
	}
	for _, c := range [][2]int{{1, 2}, {1, -1}, {2, 0}, {0, 0}, {4, 0}, {-1, 0}, {3, 3}, {1, math.MaxInt}, {1, math.MinInt}, {math.MinInt, 0}} {
		if h.Put(c[0], c[1], 5) != api.TrapIndex {
			t.Errorf("Put at %v", c)
		}
		if n, trap := h.Get(c[0], c[1]); n != 0 || trap != api.TrapIndex {
			t.Errorf("Get at %v: %d %d", c, n, trap)
		}
	}
	if got := h.Lists(); !reflect.DeepEqual(got, [][]int{{0, 9}, {}, {-8, 0, math.MaxInt}}) {
		t.Error(got)
	}
	for at, l := range h.Lists() {
		for i, want := range l {
			if n, trap := h.Get(at+1, i); n != want || trap != 0 {
				t.Errorf("Get(%d, %d): %d %d", at+1, i, n, trap)
			}
		}
	}
}

// P10.1, R7
func TestApart(t *testing.T) {
	h := New()
	h.Make(2)
	h.Put(1, 1, 4)
	c := h.Clone()
	h.Put(1, 0, 1)
	c.Put(1, 0, 2)
	h.Make(1)
	c.Make(2)
	h.Put(2, 0, 3)
	if !reflect.DeepEqual(h.Lists(), [][]int{{1, 4}, {3}}) || !reflect.DeepEqual(c.Lists(), [][]int{{2, 4}, {0, 0}}) {
		t.Error(h.Lists(), c.Lists())
	}
	l := h.Lists()
	l[0][0] = 9
	l[0] = append(l[0], 9)
	l = append(l[:1], []int{5})
	if !reflect.DeepEqual(h.Lists(), [][]int{{1, 4}, {3}}) || len(l) != 2 {
		t.Error(h.Lists())
	}
}

// P10.2
func TestOf(t *testing.T) {
	in := [][]int{{1, 2}, nil, {3}}
	h, ok := Of(in)
	if !ok || !reflect.DeepEqual(h.Lists(), [][]int{{1, 2}, {}, {3}}) {
		t.Fatal(h, ok)
	}
	in[0][0] = 9
	if n, _ := h.Get(1, 0); n != 1 {
		t.Error("what is handed in is not kept")
	}
	if h, ok := Of(nil); !ok || len(h.Lists()) != 0 {
		t.Error("a heap of no lists")
	}
	long := make([]int, 17)
	for _, l := range [][][]int{{long}, {nil, long}, {long[:16], long[:16], long[:6]}, make([][]int, 41)} {
		if h, ok := Of(l); ok || h != nil {
			t.Error(l)
		}
	}
	for _, l := range [][][]int{{long[:16], long[:16], long[:5]}, make([][]int, 40)} {
		if h, ok := Of(l); !ok || len(h.Lists()) != len(l) {
			t.Error(l)
		}
	}
}
