package diff

import (
	"math"
	"slices"
	"strings"
	"testing"

	"furcate/api"
	"furcate/branch"
	"furcate/check"
	"furcate/edits"
	"furcate/samples"
	"furcate/trace"
	"furcate/value"
	"furcate/view"
)

// seen reads a view as view.Lines would tell it, a | between lines.
func seen(s string) api.View {
	var v api.View
	for _, line := range strings.Split(s, "|") {
		f := strings.Split(line, " ")
		switch f[0] {
		case "at":
			c := api.Seen{Name: f[1], Line: int(f[2][0] - '0')}
			for _, x := range f[3:] {
				name, text, _ := strings.Cut(x, "=")
				c.Vars = append(c.Vars, api.Shown{Name: name, Text: text})
			}
			v.Calls = append(v.Calls, c)
		case "out":
			v.Out = append(v.Out, line[4:])
		case "in":
			v.In = int(f[1][0] - '0')
			v.Status = slices.Index([]string{"runs", "waits", "ends", "falls"}, f[2])
			if len(f) > 3 {
				v.Trap = int(f[3][0] - '0')
			}
		}
	}
	return v
}

// P19.1
func TestOf(t *testing.T) {
	for _, c := range [][3]string{
		{"at main 2 a=1|in 0 runs", "at main 2 a=5|in 0 runs", "0 a 1 | 5"},
		{"at main 2 a=1|in 0 runs", "at main 2 a=1|in 0 runs", ""},
		{"in 0 ends", "in 0 ends", ""},
		{"at main 2 a=1 b=2|in 0 runs", "at main 3 a=1 b=3|in 0 runs", "0 at main 2 | main 3;0 b 2 | 3"},
		{"at f 2|in 0 runs", "at g 2|in 0 runs", "0 at f 2 | g 2"},
		{"at main 2 a=1 b=2|in 0 runs", "at main 2 c=4 b=2 d=5|in 0 runs", "0 a 1 | -;0 c - | 4;0 d - | 5"},
		{"at main 2 a=1|at f 3 x=2|in 0 runs", "at main 2 a=1|in 0 runs", "1 at f 3 | -;1 x 2 | -"},
		{"at main 2 a=1|in 0 runs", "at main 2 a=1|at f 3 x=2 y=3|in 0 runs", "1 at - | f 3;1 x - | 2;1 y - | 3"},
		{"in 0 ends", "at main 2 a=1|in 0 runs", "0 at - | main 2;0 a - | 1;ends | runs"},
		{"at main 2 a=1|at f 3 x=2|at f 3 x=1|in 0 runs", "at main 2 a=2|at f 3 x=2|at f 3 x=0|in 0 runs", "0 a 1 | 2;2 x 1 | 0"},
		// variables in another order, and several of a name
		{"at main 2 a=1 b=2|in 0 runs", "at main 2 b=2 a=1|in 0 runs", "0 vars"},
		{"at main 2 a=1|in 0 runs", "at main 2 a=1 a=1|in 0 runs", "0 vars"},
		{"at main 2 a=1|in 0 runs", "at main 2 a=1 a=2|in 0 runs", "0 vars"},
		{"at main 2 a=1 a=2|in 0 runs", "at main 2 a=1|in 0 runs", "0 a 2 | 1"},
		{"at main 2 a=2 a=1|in 0 runs", "at main 2 a=1|in 0 runs", "0 a 2 | 1"},
		// a call that is told by another line of its own has no line of its variables' order
		{"at main 2 a=1 b=2|in 0 runs", "at main 3 b=2 a=1|in 0 runs", "0 at main 2 | main 3"},
		{"at f 2 a=1 b=2|in 0 runs", "at g 2 b=2 a=1|in 0 runs", "0 at f 2 | g 2"},
		{"at main 2 a=-|in 0 runs", "at main 3|in 0 runs", "0 at main 2 | main 3"},
		{"at main 2 a=1|in 0 runs", "at main 3 a=1 a=2|in 0 runs", "0 at main 2 | main 3"},
		{"at main 2 a=1 b=2 c=3|in 0 runs", "at main 2 b=2 a=1 c=4|in 0 runs", "0 c 3 | 4"},
		// another call's lines, and what is unlike beside the calls, keep none from it
		{"at main 2 a=1 b=2|at f 3 x=1 y=2|in 0 runs", "at main 3 b=2 a=1|at f 3 y=2 x=1|in 0 runs", "0 at main 2 | main 3;1 vars"},
		{"at main 2 a=1 b=2|at f 3|in 0 runs", "at main 2 b=2 a=1|at f 4|in 0 runs", "0 vars;1 at f 3 | f 4"},
		{"at main 2 a=1 b=2|out x|in 0 runs", "at main 2 b=2 a=1|out y|in 1 ends", "0 vars;out x | -;out - | y;in 0 | 1;runs | ends"},
		{"at main 2 a=1 a=2|in 0 runs", "at main 2 a=3 a=4|in 0 runs", "0 a 1 | 3;0 a 2 | 3"},
		{"at main 2|in 0 runs", "at main 2 a=3 a=4|in 0 runs", "0 a - | 3;0 a - | 4"},
		// Texts that look like what is not there
		{"at main 2 a=-|in 0 runs", "in 0 runs", "0 at main 2 | -"},
		{"in 0 runs", "at main 2 a=-|in 0 runs", "0 at - | main 2;0 a - | -"},
		{"at main 2 a=-|in 0 runs", "at main 2|in 0 runs", "0 vars"},
		{"at main 2|in 0 runs", "at main 2 a=-|in 0 runs", "0 a - | -"},
		{"at main 2 a=-|in 0 runs", "at main 2 a=-|in 0 runs", ""},
		{"at main 2 a=-|in 0 runs", "at main 2 a=-|in 1 runs", "0 a - | -;in 0 | 1"},
		{"at main 2 a=-|in 0 runs", "at main 2 a=5|in 0 runs", "0 a - | 5;0 a - | 5"},
		{"at main 2 a=5|in 0 runs", "at main 2 a=-|in 0 runs", "0 a 5 | -"},
		// what was printed
		{"out a|out b|in 0 runs", "out a|out c|in 0 runs", "out b | -;out - | c"},
		{"out a|out b|out c|in 0 runs", "out b|out c|in 0 runs", "out a | -;out b | -;out c | -;out - | b;out - | c"},
		{"out a|in 0 runs", "out a|out |out x y|in 0 runs", "out - | ;out - | x y"},
		{"out a|out b|in 0 runs", "in 0 runs", "out a | -;out b | -"},
		// how it stands
		{"in 1 runs", "in 2 runs", "in 1 | 2"},
		{"in 1 runs", "in 1 waits", "runs | waits"},
		{"in 1 falls 2", "in 1 falls 3", "falls 2 | falls 3"},
		{"in 1 falls 2", "in 2 ends", "in 1 | 2;falls 2 | ends"},
		{"at main 1 a=1|out x|in 0 runs", "at main 2 a=2|out y|in 1 ends", "0 at main 1 | main 2;0 a 1 | 2;out x | -;out - | y;in 0 | 1;runs | ends"},
	} {
		if got := strings.Join(Of(seen(c[0]), seen(c[1])), ";"); got != c[2] {
			t.Errorf("%s and %s: %q, not %q", c[0], c[1], got, c[2])
		}
	}
	// names that are empty
	one := api.View{Calls: []api.Seen{{Vars: []api.Shown{{Text: "-"}}}}}
	other := api.View{Calls: []api.Seen{{Line: 1}}}
	if got := Of(one, other); !slices.Equal(got, []string{"0 at  0 |  1"}) {
		t.Errorf("%q", got)
	}
	if got := Of(api.View{Trap: 1}, api.View{Trap: 2}); !slices.Equal(got, []string{"runs | runs"}) {
		t.Error(got)
	}
}

// P19.3: unlike views have a line, and the same ones none.
func TestUnlike(t *testing.T) {
	x := uint32(4)
	pick := func(n int) int { x = x*1664525 + 1013904223; return int(x>>16) % n }
	some := func() api.View {
		var v api.View
		for range pick(3) {
			c := api.Seen{Name: []string{"f", "f 1"}[pick(2)], Line: 1 + pick(2)}
			for range pick(3) {
				c.Vars = append(c.Vars, api.Shown{Name: []string{"a", "b", "at"}[pick(3)], Text: []string{"1", "-", ""}[pick(3)]})
			}
			v.Calls = append(v.Calls, c)
		}
		for range pick(3) {
			v.Out = append(v.Out, []string{"x", "-"}[pick(2)])
		}
		v.In, v.Status, v.Trap = pick(2), pick(4), pick(2)
		return v
	}
	for range 20000 {
		a, b := some(), some()
		if got := Of(a, b); (len(got) == 0) != view.Same(a, b) {
			t.Fatal(a, b, got)
		}
		if len(Of(a, a)) != 0 {
			t.Fatal(a)
		}
	}
}

func prog(t *testing.T, src string) api.Prog {
	t.Helper()
	p, at, e := check.Source(src)
	if e != api.OK {
		t.Fatalf("%q: %d at %d", src, e, at)
	}
	return p
}

// P19.2
func TestWalk(t *testing.T) {
	p := prog(t, "fn main(){let a=input;print a;a=input;}")
	b := api.Branch{Name: "x", Inputs: []int{4}, Own: []api.Edit{{At: 1, Name: "a", V: value.Int(6)}}}
	for upto, want := range map[int]int{-1: 0, math.MinInt: 0, 0: 1, 3: 4, 200: 201, 201: 201, math.MaxInt: 201} {
		got := Walk(p, b, upto)
		if len(got) != want {
			t.Errorf("up to %d: %d", upto, len(got))
		}
		for at, v := range got {
			if !view.Same(v, branch.At(p, b, at)) {
				t.Errorf("at %d: %v", at, view.Lines(v))
			}
		}
	}
	if got := view.Lines(Walk(p, b, 2)[2]); !slices.Equal(got, []string{"at main 1 a=6", "out 6", "in 1 runs"}) {
		t.Error(got)
	}
}

// P19.2, P19.3
func TestFirst(t *testing.T) {
	p := prog(t, "fn main(){let a=input;let b=1;b=2;a=0;print b;b=input;}")
	set := func(at int, name string, n int) []api.Edit {
		return []api.Edit{{At: at, Name: name, V: value.Int(n)}}
	}
	one := api.Branch{Inputs: []int{4}}
	for _, c := range []struct {
		b    api.Branch
		want int
	}{
		{one, -1},
		{api.Branch{Name: "other", Inputs: []int{4}, Base: set(1, "a", 4)}, -1},
		{api.Branch{Inputs: []int{5}}, 1},                       // and alike again from 4 on
		{api.Branch{Inputs: []int{4}, Own: set(2, "b", 7)}, 2},  // and alike again from 3 on
		{api.Branch{Inputs: []int{4}, Own: set(2, "b", 1)}, -1}, // it was that
		{api.Branch{Inputs: []int{4}, Base: set(4, "b", 7)}, 4}, // unlike from there on
		{api.Branch{Inputs: []int{4, 9}}, 6},                    // waits no more
		{api.Branch{}, 1},                                       // waits
		{api.Branch{Inputs: []int{4}, Own: set(5, "b", 7)}, 5},
	} {
		if got := First(p, one, c.b); got != c.want {
			t.Errorf("%v: %d, not %d", c.b, got, c.want)
		}
		if got := First(p, c.b, one); got != c.want {
			t.Errorf("%v: %d, not %d", c.b, got, c.want)
		}
	}
	late := prog(t, "fn main(){let a=0;while true{}}")
	if got := First(late, api.Branch{}, api.Branch{Own: set(200, "a", 1)}); got != 200 {
		t.Error(got)
	}
	if got := First(late, api.Branch{}, api.Branch{Own: set(201, "a", 1)}); got != -1 {
		t.Error(got)
	}
}

// P19.2, P19.3, T4: against the source, time by time.
func TestPlainly(t *testing.T) {
	firsts := map[bool]int{}
	again := 0
	for n := range 300 {
		mk := samples.New(n)
		src, p := mk.Program()
		inputs := mk.Inputs(5)
		l := mk.Edits(p, inputs, 3, 12)
		if edits.Bad(p, inputs, l) != 0 {
			l = nil
		}
		a, b := api.Branch{Inputs: inputs}, api.Branch{Inputs: slices.Clone(inputs), Own: l}
		if len(b.Inputs) > 0 && mk.Pick(2) == 0 {
			b.Inputs[len(b.Inputs)-1]++
		}
		want, alike := -1, false
		for at := range api.MaxTime + 1 {
			x, _ := trace.Source(p, a.Inputs, a.Own, at)
			y, _ := trace.Source(p, b.Inputs, b.Own, at)
			same := view.Same(view.Source(p, x), view.Source(p, y))
			if !same && want < 0 {
				want = at
			}
			alike = alike || same && want >= 0
		}
		if got := First(p, a, b); got != want {
			t.Fatalf("%q %v %v: %d, not %d", src, a, b, got, want)
		}
		firsts[want >= 0]++
		if alike {
			again++
		}
	}
	if firsts[true] < 30 || firsts[false] < 30 || again < 10 {
		t.Error("too few of a kind:", firsts, again)
	}
}
