package edits

import (
	"math"
	"slices"
	"strings"
	"testing"

	"furcate/api"
	"furcate/check"
	"furcate/trace"
	"furcate/value"
)

// P16.1
func TestMay(t *testing.T) {
	one := api.Edit{At: 3, Name: "a", V: value.Int(1)}
	for want, changes := range map[bool][]func(x *api.Edit){
		true: {
			func(x *api.Edit) {}, func(x *api.Edit) { x.At = 0 }, func(x *api.Edit) { x.At = 200 },
			func(x *api.Edit) { x.Name = "12345678" }, func(x *api.Edit) { x.Name = "\x00 " },
			func(x *api.Edit) { x.V = value.Text(strings.Repeat("x", 40)) }, func(x *api.Edit) { x.V = value.Bool(true) }, func(x *api.Edit) { x.V.N = math.MinInt },
		},
		false: {
			func(x *api.Edit) { x.At = -1 }, func(x *api.Edit) { x.At = 201 }, func(x *api.Edit) { x.Name = "" }, func(x *api.Edit) { x.Name = "123456789" },
			func(x *api.Edit) { x.V = api.Value{} }, func(x *api.Edit) { x.V = value.Text(strings.Repeat("x", 41)) }, func(x *api.Edit) { x.V = api.Value{Type: api.TyBool, N: 2} },
			func(x *api.Edit) { x.V = api.Value{Type: api.TyList} }, func(x *api.Edit) { x.V = api.Value{Type: api.TyList, N: 1} }, func(x *api.Edit) { x.V.S = "x" },
		},
	} {
		for i, change := range changes {
			x := one
			if change(&x); May(x) != want {
				t.Error(want, i, x)
			}
		}
	}
}

// row is edits at times, each of a name that tells which row and which one it is.
func row(name string, times ...int) []api.Edit {
	var out []api.Edit
	for i, at := range times {
		out = append(out, api.Edit{At: at, Name: name + string(rune('0'+i))})
	}
	return out
}

func names(l []api.Edit) string {
	var out []string
	for _, x := range l {
		out = append(out, x.Name)
	}
	return strings.Join(out, " ")
}

// P16.1, P16.3
func TestMerge(t *testing.T) {
	for _, c := range []struct {
		a, b []int
		want string
	}{
		{[]int{1, 5}, []int{0, 1, 9}, "b0 a0 b1 a1 b2"},
		{nil, nil, ""},
		{[]int{3}, nil, "a0"},
		{nil, []int{5, 3, 5, 4}, "b1 b3 b0 b2"},
		{[]int{2, 2}, []int{2, 2}, "a0 a1 b0 b1"},
		{[]int{9, 1}, []int{4}, "b0 a0 a1"},
		{[]int{1, 9, 2}, []int{9}, "a0 a1 a2 b0"},
		{[]int{math.MinInt, math.MaxInt}, []int{math.MaxInt, math.MinInt}, "a0 b1 a1 b0"},
	} {
		a, b := row("a", c.a...), row("b", c.b...)
		if got := Merge(a, b); names(got) != c.want {
			t.Errorf("%v %v: %s", c.a, c.b, names(got))
		}
		if got := Insert(a, b...); names(got) != c.want {
			t.Errorf("%v %v: %s", c.a, c.b, names(got))
		}
		if !slices.Equal(a, row("a", c.a...)) || !slices.Equal(b, row("b", c.b...)) {
			t.Error("what is handed in is changed")
		}
	}
	if got := names(Insert(row("a", 1, 3))); got != "a0 a1" {
		t.Error(got)
	}
}

// R7: nor the spare room behind a list's end.
func TestSpareRoom(t *testing.T) {
	all := row("a", 1, 2, 3, 4)
	for _, got := range [][]api.Edit{Insert(all[:2], row("b", 0, 9)...), Merge(all[:2], row("b", 9)), Merge(all[:2], nil), Upto(all[:2], 9)} {
		got = append(got, api.Edit{})
		got[0].Name = "none"
	}
	if names(all) != "a0 a1 a2 a3" {
		t.Error(names(all))
	}
}

// P16.1
func TestUpto(t *testing.T) {
	l := row("a", 4, 0, 7, 4, -2)
	for at, want := range map[int]string{-3: "", -2: "a4", 0: "a1 a4", 3: "a1 a4", 4: "a0 a1 a3 a4", 6: "a0 a1 a3 a4", 7: "a0 a1 a2 a3 a4", math.MaxInt: "a0 a1 a2 a3 a4"} {
		if got := names(Upto(l, at)); got != want {
			t.Errorf("up to %d: %s", at, got)
		}
	}
}

// P16.2
func TestBad(t *testing.T) {
	p, _, e := check.Source("fn main(){let a=1;let b=input;a=input;print a;}")
	if e != api.OK {
		t.Fatal(e)
	}
	set := func(at int, name string, v api.Value) api.Edit { return api.Edit{At: at, Name: name, V: v} }
	for _, c := range []struct {
		inputs []int
		l      []api.Edit
		want   int
	}{
		{nil, nil, 0},
		{nil, []api.Edit{set(1, "a", value.Int(2))}, 0},
		{nil, []api.Edit{set(1, "a", value.Int(2)), set(2, "a", value.Int(2))}, 2},
		{[]int{5}, []api.Edit{set(1, "a", value.Int(2)), set(2, "a", value.Int(2))}, 0},
		{[]int{5}, []api.Edit{set(1, "b", value.Int(2)), set(2, "a", value.Int(2))}, 1},
		{[]int{5}, []api.Edit{set(2, "b", value.Bool(true))}, 1},
		{[]int{5, 6}, []api.Edit{set(3, "a", value.Int(2)), set(4, "a", value.Int(2))}, 2},
		{[]int{5}, []api.Edit{set(2, "a", value.Int(2)), set(1, "a", value.Int(2))}, 2},
		{[]int{5}, []api.Edit{set(200, "a", value.Int(2))}, 1},
		{[]int{5}, []api.Edit{set(201, "a", value.Int(2))}, 0},
	} {
		_, bad := trace.Source(p, c.inputs, c.l, api.MaxTime)
		if got := Bad(p, c.inputs, c.l); got != c.want || got != bad {
			t.Errorf("%v %v: %d", c.inputs, c.l, got)
		}
	}
}
