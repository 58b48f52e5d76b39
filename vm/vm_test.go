package vm

import (
	"reflect"
	"slices"
	"testing"

	"furcate/api"
	"furcate/check"
	"furcate/samples"
	"furcate/source"
	"furcate/value"
)

func prog(t *testing.T, src string) api.Prog {
	t.Helper()
	p, at, e := check.Source(src)
	if e != api.OK {
		t.Fatalf("%q: %d at %d", src, e, at)
	}
	return p
}

// shot is a state of the source as a machine's.
func shot(p api.Prog, s api.State) api.Shot {
	out := api.Shot{Heap: s.Heap, In: s.In, Out: s.Out, Status: s.Status, Trap: s.Trap, Time: s.Time}
	for _, f := range s.Frames {
		last := f.Path[len(f.Path)-1]
		out.Calls = append(out.Calls, api.Spot{Fn: f.Fn, Node: p.Tree.Nodes[last.Block].L[last.At], Slots: f.Slots})
	}
	return out
}

func same(a, b api.Shot) bool {
	if a.In != b.In || a.Status != b.Status || a.Trap != b.Trap || a.Time != b.Time || !slices.Equal(a.Out, b.Out) {
		return false
	}
	calls := slices.EqualFunc(a.Calls, b.Calls, func(x, y api.Spot) bool {
		return x.Fn == y.Fn && x.Node == y.Node && slices.Equal(x.Slots, y.Slots)
	})
	return calls && slices.EqualFunc(a.Heap, b.Heap, slices.Equal[[]int])
}

// P11.1, P11.2, P11.3: the machine is where the source is, step by step.
func TestAsTheSource(t *testing.T) {
	for n := range 3000 {
		m := samples.New(n)
		src, p := m.Program()
		inputs := m.Inputs(6)
		machine, s := New(p), source.Start(p)
		for at := range 120 {
			if got, want := machine.State(), shot(p, s); !same(got, want) {
				t.Fatalf("%q inputs %v, step %d:\n%+v\n%+v", src, inputs, at, got, want)
			}
			if at > 60 {
				inputs = append(inputs, at%5)
			}
			machine.Step(inputs)
			s = source.Step(p, s, inputs)
		}
	}
}

// P11.2
func TestExample(t *testing.T) {
	p := prog(t, "fn main(){print 1;print 2;}")
	m := New(p)
	if got := m.State(); got.Time != 0 || len(got.Out) != 0 || len(got.Calls) != 1 || got.Calls[0].Node != 1 {
		t.Errorf("%+v", got)
	}
	m.Step(nil)
	if got := m.State(); got.Time != 1 || !slices.Equal(got.Out, []string{"1"}) || got.Calls[0].Node != 3 {
		t.Errorf("%+v", got)
	}
	m.Step(nil)
	want := m.State()
	if want.Time != 2 || want.Status != api.Ends || len(want.Calls) != 0 || !slices.Equal(want.Out, []string{"1", "2"}) {
		t.Errorf("%+v", want)
	}
	m.Step([]int{1})
	if got := m.State(); !reflect.DeepEqual(got, want) {
		t.Errorf("%+v", got)
	}
	if m := New(prog(t, "fn main(){}")); m.State().Status != api.Ends || m.State().Time != 0 {
		t.Error("nothing to do")
	}
}

// P11.1: each trap, and where it falls.
func TestTraps(t *testing.T) {
	for src, trap := range map[string]int{
		"fn main(){let a=0;print 1/a;}":                      api.TrapDiv,
		"fn main(){let a=0;print true&&1%a==0;}":             api.TrapDiv,
		"fn main(){let a=new(1);print a[1];}":                api.TrapIndex,
		"fn main(){let a=new(1);a[-1]=0;}":                   api.TrapIndex,
		"fn main(){let a=0;let b=new(17);}":                  api.TrapSize,
		"fn main(){let a=new(16);while true{a=new(16);}}":    api.TrapCells,
		"fn main(){let a=\"0123456789\";while true{a=a+a;}}": api.TrapLong,
		"fn main(){let a=0;while true{print a;}}":            api.TrapOut,
		"fn main(){let a=0;main();}":                         api.TrapFrames,
	} {
		p := prog(t, src)
		m := New(p)
		var before api.Shot
		for m.State().Status == api.Runs {
			before = m.State()
			m.Step(nil)
		}
		before.Status, before.Trap = api.Falls, trap
		before.Time++
		if got := m.State(); !same(got, before) {
			t.Errorf("%q: %+v, not %+v", src, got, before)
		}
		if m.Set(0, value.Int(1)) {
			t.Errorf("%q: it fell", src)
		}
	}
}

// P11.1, P11.2: who waits is at its last mark, and goes on with one input more.
func TestWaits(t *testing.T) {
	m := New(prog(t, "fn main(){let a=1;a=input;print a;}"))
	m.Step(nil)
	before := m.State()
	m.Step(nil)
	before.Status = api.Waits
	if got := m.State(); !same(got, before) {
		t.Errorf("%+v", got)
	}
	if !m.Set(0, value.Int(3)) || m.State().Calls[0].Slots[0] != value.Int(3) || m.State().Status != api.Waits {
		t.Error("who waits has slots")
	}
	m.Step([]int{8})
	m.Step(nil)
	if got := m.State(); got.Status != api.Ends || got.In != 1 || got.Time != 3 || got.Out[0] != "8" {
		t.Errorf("%+v", got)
	}
}

// P11.2
func TestSet(t *testing.T) {
	m := New(prog(t, "fn f(l list,n int,b bool){print n;print b;print len(l);l[0]=1;}fn main(){let a=new(2);f(a,7,true);}"))
	m.Step(nil)
	m.Step(nil)
	for _, slot := range []int{-1, 3, 1 << 60, -1 << 63} {
		before := m.State()
		if m.Set(slot, value.Int(1)) || !same(m.State(), before) {
			t.Error("there is no slot", slot)
		}
	}
	// Whatever is put there, of a value that is not of the type, or may not be, there is nought.
	odd := []api.Value{{Type: api.TyList, N: 9}, value.Text("x"), {Type: api.TyBool, N: 2}}
	for slot, v := range odd {
		if !m.Set(slot, v) {
			t.Error("there is a slot", slot)
		}
	}
	if got := m.State(); !slices.Equal(got.Calls[1].Slots, odd) || got.Calls[0].Slots[0] != (api.Value{Type: api.TyList, N: 1}) {
		t.Errorf("%+v", got)
	}
	for range 4 {
		m.Step(nil)
	}
	if got := m.State(); !slices.Equal(got.Out, []string{"0", "false", "0"}) || got.Trap != api.TrapIndex {
		t.Errorf("%+v", got)
	}
	m = New(prog(t, "fn main(){let a=1;print a;}"))
	m.Step(nil)
	m.Set(0, value.Int(5))
	m.Step(nil)
	if m.State().Out[0] != "5" || m.Set(0, value.Int(1)) {
		t.Error("a is set, and then it ended")
	}
}

// R7: a clone goes its own way, and what is told is the caller's own.
func TestClone(t *testing.T) {
	p := prog(t, "fn f(l list,n int){l[n]=n;print n;if n<2{f(l,n+1);}l[n]=9;}fn main(){let l=new(3);let a=1;f(l,0);print a;}")
	for steps := range 18 {
		m := New(p)
		for range steps {
			m.Step(nil)
		}
		before := m.State()
		c := m.Clone()
		if !same(c.State(), before) {
			t.Fatal(steps)
		}
		for range 3 {
			c.Step(nil)
			c.Set(0, value.Int(77))
		}
		if !same(m.State(), before) {
			t.Fatal("changed by its clone", steps)
		}
		other := m.Clone()
		for range 3 {
			m.Step(nil)
			m.Set(1, value.Int(78))
		}
		if !same(other.State(), before) {
			t.Fatal("a clone is changed", steps)
		}
		told := m.State()
		kept := m.State()
		for i := range told.Calls {
			told.Calls[i].Slots[0] = value.Int(99)
		}
		for i := range told.Heap {
			told.Heap[i][0] = 99
		}
		for i := range told.Out {
			told.Out[i] = "none"
		}
		if !same(m.State(), kept) {
			t.Fatal("changed by what was told", steps)
		}
	}
}

// R7: nor has a clone what the other one prints later.
func TestCloneOut(t *testing.T) {
	m := New(prog(t, "fn main(){let a=1;while true{print a;}}"))
	for i := range 40 {
		m.Step(nil)
		c := m.Clone()
		c.Set(0, value.Int(2))
		before := m.State()
		for range 4 {
			c.Step(nil)
		}
		other := m.Clone()
		other.Set(0, value.Int(3))
		for range 4 {
			other.Step(nil)
		}
		if got, at := c.State().Out, len(before.Out); !same(m.State(), before) || at < len(got) && got[at] != "2" {
			t.Fatal(i, got)
		}
	}
}

// R1: a machine that no one made new does nothing.
func TestNought(t *testing.T) {
	m := &Machine{}
	m.Step(nil)
	if m.Set(0, value.Int(1)) || len(m.State().Calls) != 0 || len(m.Clone().State().Calls) != 0 {
		t.Error("nought")
	}
}
