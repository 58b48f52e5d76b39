package view

import (
	"slices"
	"strings"
	"testing"

	"furcate/api"
	"furcate/check"
	"furcate/samples"
	"furcate/source"
	"furcate/value"
	"furcate/vm"
)

func prog(t *testing.T, src string) api.Prog {
	t.Helper()
	p, at, e := check.Source(src)
	if e != api.OK {
		t.Fatalf("%q: %d at %d", src, e, at)
	}
	return p
}

// P12.1, P12.2, P12.3
func TestOf(t *testing.T) {
	for _, c := range []struct {
		src   string
		steps int
		want  string
	}{
		{"fn main(){let a=1;print a;}", 1, "at main 1 a=1|in 0 runs"},
		{"fn main(){let a=1;print a;}", 0, "at main 1|in 0 runs"},
		{"fn main(){let a=1;print a;}", 2, "out 1|in 0 ends"},
		{"fn main(){}", 0, "in 0 ends"},
		{"fn main(){let a=true;let b=\"x y\";let c=-5;let d=\"\";\nprint b;print d;}", 6, "out x y|out |in 0 ends"},
		{"fn main(){let a=true;let b=\"x y\";let c=-5;let d=\"\";\nprint b;print d;}", 5, "at main 2 a=true b=\"x y\" c=-5 d=\"\"|out x y|in 0 runs"},
		{"fn main(){if true{let a=1;}\nlet b=2;}", 1, "at main 1|in 0 runs"},
		{"fn main(){if true{let a=1;}\nlet b=2;}", 2, "at main 2|in 0 runs"},
		{"fn main(){let a=0;\na=1/a;}", 2, "at main 2 a=0|in 0 falls 1"},
		{"fn main(){let a=0;\na=input;\na=input;}", 3, "at main 3 a=4|in 1 waits"},
		{"fn main(){let a=new(1);let b=new(0);a[0]=3;print 1;}", 3, "at main 1 a=#1[3] b=#2[]|in 0 runs"},
		{"fn main(){let a=new(1);let b=new(2);a=b;b[1]=-3;print 1;}", 4, "at main 1 a=#1[0,-3] b=#1[0,-3]|in 0 runs"},
		{"fn main(){let a=new(1);let b=new(2);a=new(3);print 1;}", 3, "at main 1 a=#1[0,0,0] b=#2[0,0]|in 0 runs"},
		{"fn f()list{}fn main(){let b=new(0);let a=f();print 1;}", 2, "at main 1 b=#1[] a=#0[]|in 0 runs"},
		{"fn f(y list,x int){\nlet z=new(1);\nprint 0;\n}fn main(){let a=new(0);let b=new(2);f(b,7);}", 4, "at main 4 a=#1[] b=#2[0,0]|at f 3 y=#2[0,0] x=7 z=#3[0]|in 0 runs"},
	} {
		p := prog(t, c.src)
		m := vm.New(p)
		for range c.steps {
			m.Step([]int{4})
		}
		if got := strings.Join(Lines(Of(p, m.State())), "|"); got != c.want {
			t.Errorf("%q, %d: %s", c.src, c.steps, got)
		}
		if got := strings.Join(Lines(Source(p, source.Run(p, []int{4}, c.steps))), "|"); got != c.want {
			t.Errorf("%q, %d, the source: %s", c.src, c.steps, got)
		}
	}
}

// P12.1: values that are none, or not of the type.
func TestTexts(t *testing.T) {
	p := prog(t, "fn main(){let a=1;let b=true;let c=\"x\";let d=new(1);print 1;}")
	node := p.Tree.Fns[0].Body - 1
	show := func(heap [][]int, slots ...api.Value) string {
		return Lines(Of(p, api.Shot{Calls: []api.Spot{{Node: node, Slots: slots}}, Heap: heap}))[0]
	}
	list := func(n int) api.Value { return api.Value{Type: api.TyList, N: n} }
	for got, want := range map[string]string{
		show(nil):              "at main 1 a=0 b=false c=\"\" d=#0[]",
		show(nil, api.Value{}): "at main 1 a=0 b=false c=\"\" d=#0[]",
		show(nil, value.Int(1), value.Int(2), value.Int(3), value.Int(4)):                      "at main 1 a=1 b=2 c=3 d=4",
		show([][]int{{1}, {2}, {3}}, list(3), list(0), list(1), list(3)):                       "at main 1 a=#1[3] b=#0[] c=#2[1] d=#1[3]",
		show([][]int{{1}}, list(2), list(-1), list(1), list(1<<62)):                            "at main 1 a=#0[] b=#0[] c=#1[1] d=#0[]",
		show([][]int{{}, {9}}, list(1), value.Text("#1[9]"), list(2), value.Bool(true)):        "at main 1 a=#1[] b=\"#1[9]\" c=#2[9] d=true",
		show(nil, api.Value{Type: api.TyBool, N: 5}, api.Value{Type: 9}, api.Value{}, list(1)): "at main 1 a=false b= c=\"\" d=#0[]",
	} {
		if got != want {
			t.Errorf("%s, not %s", got, want)
		}
	}
}

func sample() api.View {
	return api.View{Calls: []api.Seen{{Name: "f", Line: 2, Vars: []api.Shown{{Name: "a", Text: "1"}, {Name: "b", Text: "2"}}}, {Name: "g", Line: 3}}, Out: []string{"x", "y"}, In: 1, Status: 3, Trap: 2}
}

// P12.3
func TestSame(t *testing.T) {
	if !Same(sample(), sample()) || !Same(api.View{}, api.View{Calls: []api.Seen{}, Out: []string{}}) {
		t.Error("these are the same")
	}
	for i, change := range []func(v *api.View){
		func(v *api.View) { v.Calls[0].Name = "h" },
		func(v *api.View) { v.Calls[1].Line++ },
		func(v *api.View) { v.Calls[0].Vars[1].Name = "c" },
		func(v *api.View) { v.Calls[0].Vars[0].Text = "3" },
		func(v *api.View) { v.Calls[0].Vars = v.Calls[0].Vars[:1] },
		func(v *api.View) { slices.Reverse(v.Calls[0].Vars) },
		func(v *api.View) { v.Calls[1].Vars = []api.Shown{{}} },
		func(v *api.View) { v.Calls = v.Calls[:1] },
		func(v *api.View) { slices.Reverse(v.Calls) },
		func(v *api.View) { v.Out[1] = "z" },
		func(v *api.View) { v.Out = v.Out[:1] },
		func(v *api.View) { v.Out = append(v.Out, "") },
		func(v *api.View) { v.In++ },
		func(v *api.View) { v.Status = 0 },
		func(v *api.View) { v.Trap = 1 },
	} {
		v := sample()
		change(&v)
		if Same(v, sample()) || Same(sample(), v) {
			t.Error("these are unlike:", i)
		}
	}
	if got := strings.Join(Lines(sample()), "|"); got != "at f 2 a=1 b=2|at g 3|out x|out y|in 1 falls 2" {
		t.Error(got)
	}
}

// P12.4
func TestAsTheSource(t *testing.T) {
	for n := range 1500 {
		m := samples.New(n)
		src, p := m.Program()
		inputs := m.Inputs(6)
		machine, s := vm.New(p), source.Start(p)
		for at := range 80 {
			if a, b := Of(p, machine.State()), Source(p, s); !Same(a, b) {
				t.Fatalf("%q at %d: %v and %v", src, at, Lines(a), Lines(b))
			}
			machine.Step(inputs)
			s = source.Step(p, s, inputs)
		}
	}
}
