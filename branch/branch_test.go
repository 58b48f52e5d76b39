package branch

import (
	"math"
	"reflect"
	"slices"
	"strings"
	"testing"

	"furcate/api"
	"furcate/check"
	"furcate/edits"
	"furcate/samples"
	"furcate/trace"
	"furcate/value"
	"furcate/view"
)

func prog(t *testing.T, src string) api.Prog {
	t.Helper()
	p, at, e := check.Source(src)
	if e != api.OK {
		t.Fatalf("%q: %d at %d", src, e, at)
	}
	return p
}

func set(at int, name string, n int) api.Edit {
	return api.Edit{At: at, Name: name, V: value.Int(n)}
}

func many(n int, x api.Edit) []api.Edit { return slices.Repeat([]api.Edit{x}, n) }

func lines(p api.Prog, b api.Branch, t int) string {
	return strings.Join(view.Lines(At(p, b, t)), "|")
}

// same tells whether two branches are the same, whether what is empty is nil or not.
func same(a, b api.Branch) bool {
	return a.Name == b.Name && slices.Equal(a.Inputs, b.Inputs) && slices.Equal(a.Base, b.Base) && slices.Equal(a.Own, b.Own)
}

// P17.1
func TestName(t *testing.T) {
	for s, want := range map[string]bool{"a": true, "z09": true, "0": true, "abcdefgh": true, "": false, "abcdefghi": false, "A": false, "a b": false, "a_": false, "é": false, "\xff": false, "a\x00": false, "`": false, "{": false, "/": false, ":": false} {
		if Name(s) != want {
			t.Errorf("%q: %v", s, !want)
		}
	}
}

// P17.1
func TestAll(t *testing.T) {
	b := api.Branch{Base: []api.Edit{set(1, "a", 1), set(5, "a", 2)}, Own: []api.Edit{set(0, "b", 3), set(1, "b", 4), set(9, "b", 5)}}
	if got := All(b); !slices.Equal(got, []api.Edit{set(0, "b", 3), set(1, "a", 1), set(1, "b", 4), set(5, "a", 2), set(9, "b", 5)}) {
		t.Error(got)
	}
	if len(All(api.Branch{})) != 0 {
		t.Error("no edits")
	}
}

// P17.1
func TestAt(t *testing.T) {
	p := prog(t, "fn main(){let a=1;let b=input;print a;}")
	b := api.Branch{Name: "x", Inputs: []int{7}, Base: []api.Edit{set(1, "a", 2)}, Own: []api.Edit{set(1, "a", 5), set(2, "b", 3)}}
	for at, want := range map[int]string{-4: "at main 1|in 0 runs", 1: "at main 1 a=5|in 0 runs", 2: "at main 1 a=5 b=3|in 1 runs", 3: "out 5|in 1 ends", math.MaxInt: "out 5|in 1 ends"} {
		if got := lines(p, b, at); got != want {
			t.Errorf("at %d: %s", at, got)
		}
	}
}

// P17.2
func TestFork(t *testing.T) {
	p := prog(t, "fn main(){let a=1;print a;}")
	b, e := Fork(p, api.Branch{Name: "main"}, "b", set(1, "a", 5))
	if e != api.OK || !same(b, api.Branch{Name: "b", Own: []api.Edit{set(1, "a", 5)}}) || lines(p, b, 2) != "out 5|in 0 ends" {
		t.Error(b, e)
	}
	loop := prog(t, "fn main(){let a=1;let n=input;while a<n{a=a+1;}}")
	from := api.Branch{Name: "main", Inputs: []int{9, 8}, Base: []api.Edit{set(1, "a", 2), set(4, "a", 3)}, Own: []api.Edit{set(4, "a", 4), set(5, "n", 7)}}
	b, e = Fork(loop, from, "b", set(4, "a", 5))
	want := api.Branch{Name: "b", Inputs: []int{9, 8}, Base: []api.Edit{set(1, "a", 2), set(4, "a", 3), set(4, "a", 4)}, Own: []api.Edit{set(4, "a", 5)}}
	if e != api.OK || !same(b, want) {
		t.Error(b, e)
	}
	full := api.Branch{Name: "main", Inputs: []int{9}, Base: many(4, set(1, "a", 1)), Own: append(many(3, set(1, "a", 1)), set(2, "a", 1))}
	for _, c := range []struct {
		b    api.Branch
		name string
		x    api.Edit
		e    api.Errno
	}{
		{from, "B", set(4, "a", 5), api.ErrArg},
		{from, "", set(999, "a", 5), api.ErrArg},
		{from, "b", set(-1, "a", 5), api.ErrArg},
		{from, "b", set(201, "a", 5), api.ErrArg},
		{from, "b", set(4, "", 5), api.ErrArg},
		{from, "b", api.Edit{At: 4, Name: "a", V: api.Value{Type: api.TyList}}, api.ErrArg},
		{from, "b", set(200, "a", 5), api.ErrTime},
		{from, "b", set(200, "q", 5), api.ErrTime},
		{api.Branch{}, "b", set(2, "a", 5), api.ErrTime},
		{full, "b", set(2, "a", 5), api.ErrFull},
		{full, "b", set(2, "q", 5), api.ErrFull},
		{full, "b", set(200, "q", 5), api.ErrTime},
		{full, "b", set(1, "a", 5), api.OK},
		{from, "b", set(4, "q", 5), api.ErrEdit},
		{from, "b", set(1, "n", 5), api.ErrEdit},
		{from, "b", api.Edit{At: 4, Name: "a", V: value.Bool(true)}, api.ErrEdit},
		{from, "main", set(4, "a", 5), api.OK},
	} {
		b, e := Fork(loop, c.b, c.name, c.x)
		if e != c.e || e != api.OK && !reflect.DeepEqual(b, api.Branch{}) {
			t.Errorf("%s %v: %d %v", c.name, c.x, e, b)
		}
	}
}

// P17.2
func TestInput(t *testing.T) {
	p := prog(t, "fn main(){let a=input;a=input;while true{a=input;}}")
	from := api.Branch{Name: "main", Inputs: []int{9, 8, 7}, Base: []api.Edit{set(1, "a", 2)}, Own: []api.Edit{set(2, "a", 4), set(3, "a", 5)}}
	for at, want := range []api.Branch{
		{Name: "b", Inputs: []int{-6}},
		{Name: "b", Inputs: []int{9, -6}, Base: []api.Edit{set(1, "a", 2)}},
		{Name: "b", Inputs: []int{9, 8, -6}, Base: []api.Edit{set(1, "a", 2), set(2, "a", 4)}},
		{Name: "b", Inputs: []int{9, 8, -6}, Base: []api.Edit{set(1, "a", 2), set(2, "a", 4), set(3, "a", 5)}},
		{Name: "b", Inputs: []int{9, 8, 7, -6}, Base: []api.Edit{set(1, "a", 2), set(2, "a", 4), set(3, "a", 5)}},
	} {
		if got, e := Input(p, from, "b", at, -6); e != api.OK || !same(got, want) {
			t.Errorf("at %d: %v %d", at, got, e)
		}
	}
	sixteen := api.Branch{Inputs: make([]int, 16)}
	for _, c := range []struct {
		b    api.Branch
		name string
		t    int
		e    api.Errno
	}{
		{from, "", 1, api.ErrArg}, {from, "b", -1, api.ErrArg}, {from, "b", 201, api.ErrArg}, {from, "B", 201, api.ErrArg},
		{from, "b", 6, api.ErrTime}, {from, "b", 200, api.ErrTime}, {api.Branch{}, "b", 1, api.ErrTime}, {api.Branch{}, "b", 0, api.OK},
		{sixteen, "b", 29, api.OK}, {sixteen, "b", 30, api.ErrFull}, {sixteen, "b", 32, api.ErrTime},
	} {
		b, e := Input(p, c.b, c.name, c.t, 1)
		if e != c.e || e != api.OK && !reflect.DeepEqual(b, api.Branch{}) {
			t.Errorf("%q at %d: %d %v", c.name, c.t, e, b)
		}
	}
}

// P17.3
func TestAdd(t *testing.T) {
	p := prog(t, "fn main(){let a=1;if a<2{let b=1;b=b;}a=a;}")
	from := api.Branch{Name: "x", Inputs: []int{1}, Base: []api.Edit{set(3, "b", 2)}, Own: []api.Edit{set(1, "a", 0), set(4, "a", 5)}}
	got, e := Add(p, from, set(1, "a", 1))
	want := api.Branch{Name: "x", Inputs: []int{1}, Base: []api.Edit{set(3, "b", 2)}, Own: []api.Edit{set(1, "a", 0), set(1, "a", 1), set(4, "a", 5)}}
	if e != api.OK || !same(got, want) {
		t.Error(got, e)
	}
	got.Inputs[0], got.Base[0].At, got.Own[0].At = 99, 99, 99
	if from.Inputs[0] != 1 || from.Base[0].At != 3 || from.Own[0].At != 1 {
		t.Error("shared with what was handed in")
	}
	eight := api.Branch{Base: many(3, set(1, "a", 1)), Own: many(5, set(1, "a", 1))}
	for _, c := range []struct {
		b api.Branch
		x api.Edit
		e api.Errno
	}{
		{from, set(-1, "a", 1), api.ErrArg}, {from, set(201, "a", 1), api.ErrArg}, {from, set(1, "", 1), api.ErrArg}, {eight, set(1, "", 1), api.ErrArg},
		{eight, set(1, "a", 1), api.ErrFull}, {eight, set(1, "q", 1), api.ErrFull},
		{api.Branch{Base: eight.Base, Own: eight.Own[:4]}, set(1, "a", 1), api.OK},
		{from, set(1, "q", 1), api.ErrEdit}, {from, set(0, "a", 1), api.ErrEdit}, {from, set(200, "a", 1), api.ErrEdit},
		{from, set(1, "a", 2), api.ErrEdit}, // then b is not there at 3
		{from, set(3, "b", 2), api.OK},
	} {
		got, e := Add(p, c.b, c.x)
		if e != c.e || e != api.OK && !reflect.DeepEqual(got, api.Branch{}) {
			t.Errorf("%v: %d %v", c.x, e, got)
		}
	}
}

// P17.3
func TestAppend(t *testing.T) {
	b := api.Branch{Name: "x", Inputs: []int{1, 2}, Base: many(1, set(0, "a", 1)), Own: many(2, set(1, "b", 1))}
	got, e := Append(b, -3)
	if e != api.OK || !same(got, api.Branch{Name: "x", Inputs: []int{1, 2, -3}, Base: b.Base, Own: b.Own}) || len(b.Inputs) != 2 {
		t.Error(got, e)
	}
	if got, e := Append(api.Branch{Inputs: make([]int, 15)}, 1); e != api.OK || len(got.Inputs) != 16 {
		t.Error(got, e)
	}
	if got, e := Append(api.Branch{Name: "x", Inputs: make([]int, 16)}, 1); e != api.ErrFull || !reflect.DeepEqual(got, api.Branch{}) {
		t.Error(got, e)
	}
}

// P17.4
func TestRebase(t *testing.T) {
	p := prog(t, "fn main(){let a=input;if a<2{let b=1;b=b;}a=a;a=a;}")
	a := api.Branch{Name: "a", Inputs: []int{1}, Base: []api.Edit{set(4, "a", 9)}, Own: []api.Edit{set(3, "b", 4), set(4, "a", 5)}}
	onto := api.Branch{Name: "o", Inputs: []int{-7, 8}, Base: []api.Edit{set(4, "a", 6)}, Own: []api.Edit{set(1, "a", 0), set(3, "b", 3)}}
	got, bad, e := Rebase(p, a, onto)
	want := api.Branch{Name: "a", Inputs: []int{-7, 8}, Base: []api.Edit{set(1, "a", 0), set(3, "b", 3), set(4, "a", 6)}, Own: a.Own}
	if e != api.OK || bad != 0 || !same(got, want) {
		t.Error(got, bad, e)
	}
	for _, c := range []struct {
		a, onto api.Branch
		bad     int
		e       api.Errno
	}{
		{a, api.Branch{Inputs: []int{5}}, 1, api.ErrEdit},
		{a, api.Branch{Inputs: []int{5}, Own: []api.Edit{set(2, "a", 1)}}, 2, api.ErrEdit},
		{a, api.Branch{}, 1, api.ErrEdit},
		{api.Branch{Name: "a", Own: many(3, set(1, "a", 1))}, api.Branch{Inputs: []int{5}, Base: many(2, set(1, "a", 1)), Own: many(4, set(1, "a", 1))}, 0, api.ErrFull},
		{api.Branch{Name: "a", Own: many(3, set(9, "q", 1))}, api.Branch{Inputs: []int{5}, Base: many(2, set(1, "a", 1)), Own: many(4, set(1, "a", 1))}, 0, api.ErrFull},
		{api.Branch{Name: "a", Base: many(8, set(1, "a", 1)), Own: many(2, set(1, "a", 1))}, api.Branch{Inputs: []int{5}, Base: many(2, set(1, "a", 1)), Own: many(4, set(1, "a", 1))}, 0, api.OK},
	} {
		got, bad, e := Rebase(p, c.a, c.onto)
		if e != c.e || bad != c.bad || e != api.OK && !reflect.DeepEqual(got, api.Branch{}) {
			t.Errorf("%v upon %v: %v %d %d", c.a, c.onto, got, bad, e)
		}
	}
}

// P17.5, R7: a fork is as the other one below its time, and none is changed.
func TestForks(t *testing.T) {
	forks := 0
	for n := range 1500 {
		mk := samples.New(n)
		src, p := mk.Program()
		inputs := append(make([]int, 0, 9), mk.Inputs(5)...)
		l := mk.Edits(p, inputs, 5, 9)
		if edits.Bad(p, inputs, l) != 0 {
			continue
		}
		k := mk.Pick(len(l) + 1)
		var b api.Branch
		for i, x := range l {
			if i < k {
				b.Base = append(b.Base, x)
			} else {
				b.Own = append(b.Own, x)
			}
		}
		b.Name, b.Inputs = "main", inputs
		before := clone(b)
		at := mk.Pick(9)
		x := api.Edit{At: at, Name: "v0", V: mk.Value(1)}
		if more := mk.Edits(p, inputs, 1, 9); len(more) > 0 {
			x = more[0]
		}
		at = x.At
		f, e := Fork(p, b, "b", x)
		i, ei := Input(p, b, "b", at, 5)
		if c, e := Append(b, 3); e == api.OK {
			c.Inputs[0] = 99
		}
		Add(p, b, x)
		Rebase(p, b, f)
		if !reflect.DeepEqual(b, before) || len(inputs) < cap(inputs) && inputs[:len(inputs)+1][len(inputs)] != 0 {
			t.Fatal("changed", b, before)
		}
		for when := range at + 1 {
			want := lines(p, b, when)
			if e == api.OK && when < at && lines(p, f, when) != want || ei == api.OK && lines(p, i, when) != want {
				t.Fatalf("%q %v forked at %d: unlike at %d", src, b, at, when)
			}
		}
		if e != api.OK {
			continue
		}
		forks++
		m, bad := trace.Machine(p, inputs, edits.Insert(edits.Upto(l, at), x), 40)
		if bad != 0 || !view.Same(At(p, f, 40), view.Of(p, m.State())) {
			t.Fatalf("%q %v forked by %v", src, b, x)
		}
	}
	if forks < 100 {
		t.Error("too few forks:", forks)
	}
}
