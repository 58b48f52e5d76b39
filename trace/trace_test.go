package trace

import (
	"math"
	"reflect"
	"slices"
	"strings"
	"testing"

	"furcate/api"
	"furcate/check"
	"furcate/samples"
	"furcate/source"
	"furcate/value"
	"furcate/view"
)

func prog(t *testing.T, src string) api.Prog {
	t.Helper()
	p, at, e := check.Source(src)
	if e != api.OK {
		t.Fatalf("%q: %d at %d", src, e, at)
	}
	return p
}

func edit(at int, name string, n int) api.Edit {
	return api.Edit{At: at, Name: name, V: value.Int(n)}
}

// P13.1
func TestSorted(t *testing.T) {
	for want, all := range map[bool][][]int{
		true:  {{}, {5}, {-1, 0, 0, 3}, {math.MinInt, math.MaxInt}},
		false: {{1, 0}, {0, 2, 1}, {0, 0, -1}, {math.MaxInt, math.MinInt}},
	} {
		for _, times := range all {
			var l []api.Edit
			for _, at := range times {
				l = append(l, api.Edit{At: at})
			}
			if Sorted(l) != want {
				t.Error(times)
			}
		}
	}
}

// P13.1
func TestSet(t *testing.T) {
	p := prog(t, "fn main(){let a=1;let b=true;let l=new(1);let s=\"\";if b{let c=2;}print a;}")
	for name, want := range map[string][]api.Value{
		"a": {value.Int(5)}, "b": {value.Bool(false)}, "s": {value.Text("new")}, "l": nil, "c": nil, "q": nil, "": nil,
	} {
		for _, v := range []api.Value{value.Int(5), value.Bool(false), value.Text("new"), {}, {Type: api.TyBool, N: 2}, {Type: api.TyList}, {Type: api.TyList, N: 1}, {Type: api.TyInt, S: "x"}, value.Text(strings.Repeat("x", 41))} {
			m, _ := Machine(p, nil, nil, 4)
			before := m.State()
			ok := Set(p, m, name, v)
			if ok != slices.Contains(want, v) || !ok && !reflect.DeepEqual(before, m.State()) {
				t.Errorf("%s %v: %v", name, v, ok)
			}
			if ok && !slices.Contains(m.State().Calls[0].Slots, v) {
				t.Errorf("%s %v is not there", name, v)
			}
		}
	}
	for at, want := range map[int]bool{0: false, 1: true, 6: true, 7: false} {
		m, _ := Machine(p, nil, nil, at)
		if Set(p, m, "a", value.Int(2)) != want {
			t.Error("at", at)
		}
	}
	p = prog(t, "fn main(){let a=0;a=1/a;}")
	m, _ := Machine(p, nil, nil, 2)
	if m.State().Status != api.Falls || Set(p, m, "a", value.Int(2)) {
		t.Error("it fell")
	}
	p = prog(t, "fn f(x int){print x;}fn main(){let a=0;f(1);}")
	m, _ = Machine(p, nil, nil, 2)
	if Set(p, m, "a", value.Int(2)) || !Set(p, m, "x", value.Int(2)) {
		t.Error("only the top's variables")
	}
}

// P13.2
func TestTimes(t *testing.T) {
	for _, c := range []struct {
		src    string
		inputs []int
		edits  []api.Edit
		t      int
		want   string
		time   int
		bad    int
	}{
		{"let a=1;print a;", nil, []api.Edit{edit(1, "a", 5)}, 2, "out 5|in 0 ends", 2, 0},
		{"let a=1;print a;", nil, []api.Edit{edit(1, "a", 5)}, 1, "at main 1 a=5|in 0 runs", 1, 0},
		{"let a=1;print a;", nil, []api.Edit{edit(1, "a", 5)}, 0, "at main 1|in 0 runs", 0, 0},
		{"let a=1;print a;", nil, []api.Edit{edit(1, "a", 5), edit(1, "a", 6)}, 2, "out 6|in 0 ends", 2, 0},
		{"let a=1;print a;", nil, []api.Edit{edit(0, "a", 5)}, 0, "at main 1|in 0 runs", 0, 1},
		{"let a=1;print a;", nil, []api.Edit{edit(0, "a", 5), edit(1, "a", 6)}, 2, "out 1|in 0 ends", 2, 1},
		{"let a=1;print a;", nil, []api.Edit{edit(-1, "a", 5), edit(1, "a", 6)}, 2, "out 1|in 0 ends", 2, 1},
		{"let a=1;print a;", nil, []api.Edit{edit(1, "a", 5), edit(0, "a", 6)}, 2, "out 5|in 0 ends", 2, 2},
		{"let a=1;print a;", nil, []api.Edit{edit(1, "a", 5), edit(2, "a", 6)}, 9, "out 5|in 0 ends", 2, 2},
		{"let a=1;print a;", nil, []api.Edit{edit(1, "a", 5), edit(7, "a", 6)}, 9, "out 5|in 0 ends", 2, 2},
		{"let a=1;print a;", nil, []api.Edit{edit(1, "a", 5), edit(7, "a", 6)}, 7, "out 5|in 0 ends", 2, 2},
		{"let a=1;print a;", nil, []api.Edit{edit(1, "a", 5), edit(7, "a", 6)}, 6, "out 5|in 0 ends", 2, 0},
		{"let a=1;print a;", nil, []api.Edit{edit(9, "a", 5), edit(1, "a", 6)}, 2, "out 1|in 0 ends", 2, 0},
		{"let a=1;print a;", nil, []api.Edit{edit(201, "a", 5)}, math.MaxInt, "out 1|in 0 ends", 2, 0},
		{"let a=1;print a;", nil, []api.Edit{edit(200, "a", 5)}, math.MaxInt, "out 1|in 0 ends", 2, 1},
		{"let a=1;print a;", nil, nil, -5, "at main 1|in 0 runs", 0, 0},
		{"let a=1;print a;", nil, []api.Edit{edit(1, "b", 5), edit(1, "a", 6)}, 2, "out 1|in 0 ends", 2, 1},
		{"let a=1;print a;", nil, []api.Edit{{At: 1, Name: "a", V: value.Bool(true)}}, 1, "at main 1 a=1|in 0 runs", 1, 1},
		{"let a=1;a=input;", nil, nil, 1, "at main 1 a=1|in 0 runs", 1, 0},
		{"let a=1;a=input;", nil, nil, 2, "at main 1 a=1|in 0 waits", 1, 0},
		{"let a=1;a=input;", nil, []api.Edit{edit(1, "a", 3)}, 2, "at main 1 a=3|in 0 waits", 1, 0},
		{"let a=1;a=input;", nil, []api.Edit{edit(2, "a", 3)}, 2, "at main 1 a=1|in 0 waits", 1, 1},
		{"let a=1;a=input;print a;", []int{7, 8}, []api.Edit{edit(2, "a", 3)}, 4, "out 3|in 1 ends", 3, 0},
		{"let a=0;a=1/a;print a;", nil, []api.Edit{edit(1, "a", 1)}, 3, "out 1|in 0 ends", 3, 0},
		{"let a=0;a=1/a;print a;", nil, []api.Edit{edit(2, "a", 1)}, 3, "at main 1 a=0|in 0 falls 1", 2, 1},
		{"while true{}", nil, nil, 500, "at main 1|in 0 runs", 200, 0},
		{"let a=1;while true{}", nil, []api.Edit{edit(200, "a", 2)}, 500, "at main 1 a=2|in 0 runs", 200, 0},
	} {
		p := prog(t, "fn main(){"+c.src+"}")
		inputs, edits := slices.Clone(c.inputs), slices.Clone(c.edits)
		m, bad := Machine(p, inputs, edits, c.t)
		if got := strings.Join(view.Lines(view.Of(p, m.State())), "|"); got != c.want || bad != c.bad || m.State().Time != c.time {
			t.Errorf("%q %v at %d: %s %d", c.src, c.edits, c.t, got, bad)
		}
		s, bad := Source(p, inputs, edits, c.t)
		if got := strings.Join(view.Lines(view.Source(p, s)), "|"); got != c.want || bad != c.bad || s.Time != c.time {
			t.Errorf("%q %v at %d, the source: %s %d", c.src, c.edits, c.t, got, bad)
		}
		if !slices.Equal(inputs, c.inputs) || !slices.Equal(edits, c.edits) {
			t.Error("what is handed in is changed")
		}
	}
}

// P13.3: the machine is where the source is, also with edits; and edits behind a time change nothing up to it.
func TestAsTheSource(t *testing.T) {
	numbers := map[bool]int{}
	for n := range 1500 {
		mk := samples.New(n)
		src, p := mk.Program()
		inputs := mk.Inputs(6)
		l := mk.Edits(p, inputs, 5, 12)
		for _, at := range []int{0, 1, 2, 3, 5, 8, 13, 21, 34, 200} {
			m, bad := Machine(p, inputs, l, at)
			s, want := Source(p, inputs, l, at)
			if bad != want || !view.Same(view.Of(p, m.State()), view.Source(p, s)) || m.State().Time != s.Time {
				t.Fatalf("%q %v %v at %d: %d %d", src, inputs, l, at, bad, want)
			}
			var upto []api.Edit
			for _, x := range l {
				if x.At <= at {
					upto = append(upto, x)
				}
			}
			other, still := Machine(p, inputs, upto, at)
			if still != bad || !reflect.DeepEqual(other.State(), m.State()) {
				t.Fatalf("%q %v at %d", src, l, at)
			}
			numbers[bad == 0 && len(upto) > 1]++
		}
	}
	if numbers[true] < 500 || numbers[false] < 500 {
		t.Error("too few of a kind", numbers)
	}
}

// P13.2, by what it says: one state from the beginning on.
func TestPlainly(t *testing.T) {
	for n := range 400 {
		mk := samples.New(n)
		src, p := mk.Program()
		inputs := mk.Inputs(4)
		l := mk.Edits(p, inputs, 6, 9)
		s, next := source.Start(p), 0
		for at := range 40 {
			ok := true
			for ok && next < len(l) && l[next].At == at {
				if s, ok = source.Set(p, s, l[next].Name, l[next].V); ok {
					next++
				}
			}
			got, bad := Source(p, inputs, l, at)
			if !ok {
				if bad != next+1 || got.Time != at {
					t.Fatalf("%q %v at %d: %d", src, l, at, bad)
				}
				break
			}
			if bad != 0 || !view.Same(view.Source(p, got), view.Source(p, s)) {
				t.Fatalf("%q %v at %d: %d", src, l, at, bad)
			}
			if s = source.Step(p, s, inputs); s.Time == at {
				break
			}
		}
	}
}
