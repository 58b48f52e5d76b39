package tree

import (
	"reflect"
	"slices"
	"strconv"
	"strings"
	"testing"

	"furcate/api"
	"furcate/branch"
	"furcate/check"
	"furcate/samples"
	"furcate/trace"
	"furcate/value"
	"furcate/view"
)

func prog(t *testing.T, src string) api.Prog {
	t.Helper()
	p, at, e := check.Source(src)
	if e != api.OK {
		t.Fatalf("%q: %d at %d", src, e, at)
	}
	return p
}

func set(at int, name string, n int) api.Edit {
	return api.Edit{At: at, Name: name, V: value.Int(n)}
}

func row(l []api.Edit) string {
	s := ""
	for _, x := range l {
		s += " " + strconv.Itoa(x.At) + x.Name + value.Quoted(x.V)
	}
	return s
}

// text is a wood, whole, as a text.
func text(w api.Wood) string {
	s := strconv.Itoa(w.Cur) + " at " + strconv.Itoa(w.Time)
	for _, b := range w.L {
		s += "; " + b.Name + " in"
		for _, n := range b.Inputs {
			s += " " + strconv.Itoa(n)
		}
		s += " base" + row(b.Base) + " own" + row(b.Own)
	}
	return s
}

// P18.1
func TestNew(t *testing.T) {
	if got := text(New()); got != "0 at 0; main in base own" {
		t.Error(got)
	}
	if p := prog(t, "fn main(){}"); !May(p, New()) {
		t.Error("it may be")
	}
}

// P18.1
func TestFind(t *testing.T) {
	w := api.Wood{L: []api.Branch{{Name: "main"}, {Name: "b"}, {Name: "c"}}}
	for name, want := range map[string]int{"main": 0, "b": 1, "c": 2, "d": -1, "": -1, "B": -1} {
		if got := Find(w, name); got != want {
			t.Errorf("%q: %d", name, got)
		}
	}
	if Find(api.Wood{}, "") != -1 {
		t.Error("none is there")
	}
}

const looped = "fn main(){let a=input;while a<100{a=a+1;}}"

func sample() api.Wood {
	return api.Wood{Cur: 1, Time: 3, L: []api.Branch{{Name: "main", Inputs: []int{98}}, {Name: "b", Inputs: []int{5, 6}, Base: []api.Edit{set(1, "a", 7)}, Own: []api.Edit{set(1, "a", 8), set(3, "a", -50)}}}}
}

// P18.1
func TestMay(t *testing.T) {
	p := prog(t, looped)
	for want, changes := range map[bool][]func(w *api.Wood){
		true: {
			func(w *api.Wood) {},
			func(w *api.Wood) { w.Time = 200 },
			func(w *api.Wood) { w.Time = 0 },
			func(w *api.Wood) { w.Cur, w.Time = 0, 6 }, // it ends there
			func(w *api.Wood) { w.L[1].Inputs = make([]int, 16) },
			func(w *api.Wood) { w.L[1].Base = slices.Repeat([]api.Edit{set(1, "a", 1)}, 6) },
			func(w *api.Wood) { w.L[1].Base = nil },
			func(w *api.Wood) {
				for i := range 6 {
					w.L = append(w.L, api.Branch{Name: strconv.Itoa(i)})
				}
			},
			func(w *api.Wood) { w.L[1].Name = "12345678" },
		},
		false: {
			func(w *api.Wood) { w.L = nil },
			func(w *api.Wood) { w.Time = -1 },
			func(w *api.Wood) { w.Time = 201 },
			func(w *api.Wood) { w.Cur = 2 },
			func(w *api.Wood) { w.Cur = -1 },
			func(w *api.Wood) { w.Cur, w.Time = 0, 7 },
			func(w *api.Wood) { w.L[1].Inputs = make([]int, 17) },
			func(w *api.Wood) { w.L[1].Base = slices.Repeat([]api.Edit{set(1, "a", 1)}, 7) },
			func(w *api.Wood) { w.L[1].Name = "main" },
			func(w *api.Wood) { w.L[1].Name = "B" },
			func(w *api.Wood) { w.L[0].Name = "" },
			func(w *api.Wood) { slices.Reverse(w.L[1].Own) },
			func(w *api.Wood) { w.L[1].Base = []api.Edit{set(3, "a", 1), set(2, "a", 1)} },
			func(w *api.Wood) { w.L[1].Base[0].Name = "q" },
			func(w *api.Wood) { w.L[1].Base[0].Name = "" },
			func(w *api.Wood) { w.L[1].Own[1].At = 201 },
			func(w *api.Wood) { w.L[1].Own[0].At = -1 },
			func(w *api.Wood) { w.L[1].Own[0].V = value.Bool(true) },
			func(w *api.Wood) { w.L[1].Own[0].V = api.Value{} },
			func(w *api.Wood) { w.L[1].Inputs = nil },
			func(w *api.Wood) { w.L[0].Own = []api.Edit{set(6, "a", 1)} },
			func(w *api.Wood) {
				for i := range 7 {
					w.L = append(w.L, api.Branch{Name: strconv.Itoa(i)})
				}
			},
		},
	} {
		for i, change := range changes {
			w := sample()
			if change(&w); May(p, w) != want {
				t.Error(want, i, text(w))
			}
		}
	}
}

// each call refuses, and tells the wood as it is.
func refused(t *testing.T, w api.Wood, calls map[string]api.Errno, call func(w api.Wood, name string) (api.Wood, api.Errno)) {
	t.Helper()
	for name, want := range calls {
		before := text(w)
		got, e := call(w, name)
		if e != want || text(got) != before || text(w) != before {
			t.Errorf("%q: %d, not %d; %s", name, e, want, text(got))
		}
	}
}

// P18.2
func TestGo(t *testing.T) {
	p := prog(t, looped)
	w := sample()
	for _, at := range []int{0, 1, 3, 200} {
		if got, e := Go(p, w, at); e != api.OK || got.Time != at || got.Cur != 1 {
			t.Error(at, e)
		}
	}
	w.Cur, w.Time = 0, 2
	for at, want := range map[int]api.Errno{6: api.OK, 7: api.ErrTime, 200: api.ErrTime, 201: api.ErrTime, -1: api.ErrTime, 1 << 62: api.ErrTime, -1 << 63: api.ErrTime} {
		got, e := Go(p, w, at)
		if e != want || e == api.OK && got.Time != at || e != api.OK && text(got) != text(w) {
			t.Error(at, e, got.Time)
		}
	}
}

// P18.2
func TestSwitch(t *testing.T) {
	p := prog(t, looped)
	w := sample()
	w.Time = 50
	if got, e := Switch(p, w, "main"); e != api.OK || got.Cur != 0 || got.Time != 6 {
		t.Error(got.Cur, got.Time, e)
	}
	if got, e := Switch(p, w, "b"); e != api.OK || got.Cur != 1 || got.Time != 50 {
		t.Error(got.Cur, got.Time, e)
	}
	refused(t, w, map[string]api.Errno{"c": api.ErrBranch, "": api.ErrBranch, "B": api.ErrBranch}, func(w api.Wood, name string) (api.Wood, api.Errno) { return Switch(p, w, name) })
}

// P18.3
func TestFork(t *testing.T) {
	p := prog(t, "fn main(){let a=1;print a;}")
	w, e := Go(p, New(), 1)
	if e != api.OK {
		t.Fatal(e)
	}
	w, e = Fork(p, w, "b", "a", value.Int(5))
	if got := text(w); e != api.OK || got != "1 at 1; main in base own; b in base own 1a5" {
		t.Error(got, e)
	}
	w, e = Fork(p, w, "c", "a", value.Int(6))
	if got := text(w); e != api.OK || got != "2 at 1; main in base own; b in base own 1a5; c in base 1a5 own 1a6" {
		t.Error(got, e)
	}
	fork := func(variable string, v api.Value) func(w api.Wood, name string) (api.Wood, api.Errno) {
		return func(w api.Wood, name string) (api.Wood, api.Errno) { return Fork(p, w, name, variable, v) }
	}
	refused(t, w, map[string]api.Errno{"b": api.ErrThere, "main": api.ErrThere, "D": api.ErrArg, "": api.ErrArg, "d": api.ErrEdit}, fork("q", value.Int(1)))
	refused(t, w, map[string]api.Errno{"b": api.ErrThere, "d": api.ErrArg}, fork("", value.Int(1)))
	refused(t, w, map[string]api.Errno{"c": api.ErrThere, "d": api.ErrArg}, fork("a", api.Value{}))
	for _, name := range strings.Fields("d e f g h") {
		if w, e = Fork(p, w, name, "a", value.Int(1)); e != api.OK {
			t.Fatal(name, e)
		}
	}
	refused(t, w, map[string]api.Errno{"b": api.ErrThere, "i": api.ErrFull, "I": api.ErrFull}, fork("", value.Int(1)))
	if !May(p, w) || len(w.L[7].Base) != 6 {
		t.Error(text(w))
	}
	w.L = w.L[5:]
	w.Cur = 2
	if w, e = Fork(p, w, "i", "a", value.Int(1)); e != api.OK {
		t.Fatal(e)
	}
	refused(t, w, map[string]api.Errno{"j": api.ErrFull, "J": api.ErrArg}, fork("a", value.Int(1)))
}

// P18.3
func TestInput(t *testing.T) {
	p := prog(t, "fn main(){let a=input;while true{a=input;}}")
	w := api.Wood{Time: 3, L: []api.Branch{{Name: "main", Inputs: []int{1, 2, 3, 4}, Own: []api.Edit{set(3, "a", 9), set(4, "a", 9)}}}}
	w, e := Input(p, w, "b", 7)
	if got := text(w); e != api.OK || got != "1 at 3; main in 1 2 3 4 base own 3a9 4a9; b in 1 2 7 base 3a9 own" {
		t.Error(got, e)
	}
	input := func(w api.Wood, name string) (api.Wood, api.Errno) { return Input(p, w, name, 1) }
	refused(t, w, map[string]api.Errno{"main": api.ErrThere, "b": api.ErrThere, "C": api.ErrArg, "": api.ErrArg}, input)
	w.L[1].Inputs = make([]int, 16)
	w.Time = 31
	refused(t, w, map[string]api.Errno{"c": api.ErrFull, "b": api.ErrThere}, input)
	for i := range 6 {
		w.L = append(w.L, api.Branch{Name: strconv.Itoa(i)})
	}
	refused(t, w, map[string]api.Errno{"C": api.ErrFull, "b": api.ErrThere}, input)
}

// P18.3
func TestAddAppend(t *testing.T) {
	p := prog(t, looped)
	w, e := Add(p, sample(), "a", value.Int(20))
	if got := text(w); e != api.OK || got != "1 at 3; main in 98 base own; b in 5 6 base 1a7 own 1a8 3a-50 3a20" {
		t.Error(got, e)
	}
	w, e = Append(w, -4)
	if got := text(w); e != api.OK || got != "1 at 3; main in 98 base own; b in 5 6 -4 base 1a7 own 1a8 3a-50 3a20" {
		t.Error(got, e)
	}
	add := func(w api.Wood, name string) (api.Wood, api.Errno) { return Add(p, w, name, value.Int(1)) }
	refused(t, w, map[string]api.Errno{"": api.ErrArg, "123456789": api.ErrArg, "q": api.ErrEdit}, add)
	w.L[1].Base = slices.Repeat([]api.Edit{set(1, "a", 1)}, 5)
	refused(t, w, map[string]api.Errno{"": api.ErrArg, "a": api.ErrFull, "q": api.ErrFull}, add)
	w.L[1].Inputs = make([]int, 16)
	refused(t, w, map[string]api.Errno{"": api.ErrFull}, func(w api.Wood, _ string) (api.Wood, api.Errno) { return Append(w, 1) })
}

// P18.4
func TestRename(t *testing.T) {
	w := sample()
	got, e := Rename(w, "b", "c9")
	if e != api.OK || got.L[1].Name != "c9" || got.Cur != 1 || w.L[1].Name != "b" {
		t.Error(text(got), e)
	}
	if got, e := Rename(w, "main", "root"); e != api.OK || got.L[0].Name != "root" {
		t.Error(text(got), e)
	}
	refused(t, w, map[string]api.Errno{"B": api.ErrArg, "": api.ErrArg, "main": api.ErrThere, "b": api.ErrThere}, func(w api.Wood, name string) (api.Wood, api.Errno) { return Rename(w, "b", name) })
	refused(t, w, map[string]api.Errno{"B": api.ErrBranch, "b": api.ErrBranch, "c": api.ErrBranch}, func(w api.Wood, name string) (api.Wood, api.Errno) { return Rename(w, "q", name) })
}

// P18.4
func TestPrune(t *testing.T) {
	p := prog(t, looped)
	w := sample()
	w.L = append(w.L, api.Branch{Name: "c", Inputs: []int{0}}, api.Branch{Name: "d", Inputs: []int{1}})
	names := func(w api.Wood) string {
		s := ""
		for _, b := range w.L {
			s += b.Name + " "
		}
		return s + strconv.Itoa(w.Cur) + " " + strconv.Itoa(w.Time)
	}
	for _, c := range []struct {
		cur, time  int
		name, want string
	}{
		{2, 50, "b", "main c d 1 50"}, {2, 50, "d", "main b c 2 50"}, {2, 50, "c", "main b d 0 6"}, {2, 4, "c", "main b d 0 4"},
		{0, 5, "c", "main b d 0 5"}, {3, 200, "d", "main b c 0 6"}, {1, 9, "d", "main b c 1 9"},
	} {
		w.Cur, w.Time = c.cur, c.time
		before := text(w)
		got, e := Prune(p, w, c.name)
		if e != api.OK || names(got) != c.want || text(w) != before {
			t.Errorf("%v: %s %d", c, names(got), e)
		}
	}
	refused(t, w, map[string]api.Errno{"q": api.ErrBranch, "": api.ErrBranch, "main": api.ErrRoot}, func(w api.Wood, name string) (api.Wood, api.Errno) { return Prune(p, w, name) })
}

// P18.4
func TestRebase(t *testing.T) {
	p := prog(t, looped)
	w := sample()
	w.Time = 50
	w.L = append(w.L, api.Branch{Name: "c", Inputs: []int{97}, Own: []api.Edit{set(2, "a", 98)}}, api.Branch{Name: "d", Inputs: []int{3}, Own: []api.Edit{set(1, "a", 99), set(2, "a", 99), set(7, "a", 99)}}, api.Branch{Name: "e"})
	got, bad, e := Rebase(p, w, "b", "c")
	if e != api.OK || bad != 0 || got.Cur != 1 || got.Time != 50 || text(api.Wood{L: got.L[1:2]}) != "0 at 0; b in 97 base 2a98 own 1a8 3a-50" {
		t.Error(text(got), bad, e)
	}
	got, bad, e = Rebase(p, w, "c", "main")
	if e != api.OK || bad != 0 || got.Cur != 1 || got.Time != 50 || text(api.Wood{L: got.L[2:3]}) != "0 at 0; c in 98 base own 2a98" {
		t.Error(text(got), bad, e)
	}
	w.Cur = 2
	got, bad, e = Rebase(p, w, "c", "main")
	if e != api.OK || bad != 0 || got.Cur != 2 || got.Time != 6 {
		t.Error(text(got), bad, e)
	}
	for _, c := range []struct {
		a, onto string
		bad     int
		e       api.Errno
	}{
		{"q", "main", 0, api.ErrBranch}, {"b", "q", 0, api.ErrBranch}, {"q", "q", 0, api.ErrBranch}, {"main", "q", 0, api.ErrBranch},
		{"b", "b", 0, api.ErrArg}, {"main", "main", 0, api.ErrArg}, {"main", "b", 0, api.ErrRoot},
		{"b", "e", 1, api.ErrEdit}, {"d", "main", 3, api.ErrEdit}, {"d", "c", 4, api.ErrEdit},
	} {
		before := text(w)
		got, bad, e := Rebase(p, w, c.a, c.onto)
		if bad != c.bad || e != c.e || text(got) != before || text(w) != before {
			t.Errorf("%v: %d %d", c, bad, e)
		}
	}
	w.L[1].Own, w.L[2].Own = slices.Repeat(w.L[1].Own, 2), slices.Repeat(w.L[2].Own, 5)
	if _, bad, e := Rebase(p, w, "b", "c"); bad != 0 || e != api.ErrFull {
		t.Error(bad, e)
	}
}

// P18.5, T3: whatever is done, a wood that may be stays one, and no other branch is changed by it.
func TestApart(t *testing.T) {
	done := map[string]int{}
	for n := range 250 {
		mk := samples.New(n)
		src, p := mk.Program()
		w := New()
		name := func() string { return []string{"main", "b", "c", "d", "e", "f", "g", "h", "i", "Q"}[mk.Pick(10)] }
		variable := func() string {
			if v := check.Visible(p, at(p, w)); len(v) > 0 {
				return v[mk.Pick(len(v))].Name
			}
			return "v0"
		}
		for range 60 {
			before := text(w)
			var next api.Wood
			var e api.Errno
			changed := name()
			verb := []string{"go", "go", "fork", "fork", "input", "input", "add", "append", "switch", "rename", "prune", "rebase"}[mk.Pick(12)]
			switch verb {
			case "go":
				next, e = Go(p, w, mk.Pick(16)-1)
				changed = ""
			case "fork":
				next, e = Fork(p, w, changed, variable(), mk.Value(1+mk.Pick(3)))
			case "input":
				next, e = Input(p, w, changed, mk.Pick(5))
			case "add":
				changed = w.L[w.Cur].Name
				next, e = Add(p, w, variable(), mk.Value(1+mk.Pick(3)))
			case "append":
				changed = w.L[w.Cur].Name
				next, e = Append(w, mk.Pick(5))
			case "switch":
				next, e = Switch(p, w, changed)
				changed = ""
			case "rename":
				next, e = Rename(w, changed, name())
			case "prune":
				next, e = Prune(p, w, changed)
			case "rebase":
				next, _, e = Rebase(p, w, changed, name())
			}
			if text(w) != before || e != api.OK && text(next) != before {
				t.Fatalf("%q, %s: changed", src, verb)
			}
			if !May(p, next) {
				t.Fatalf("%q, %s of %s: %s", src, verb, before, text(next))
			}
			for _, b := range w.L {
				i := Find(next, b.Name)
				if b.Name != changed && (i < 0 || !reflect.DeepEqual(branch.All(next.L[i]), branch.All(b)) || !slices.Equal(next.L[i].Inputs, b.Inputs)) {
					t.Fatalf("%q, %s %s changed %s", src, verb, changed, b.Name)
				}
			}
			if e == api.OK {
				done[verb]++
			}
			// A fork is as the other one up to its time.
			if (verb == "fork" || verb == "input") && e == api.OK {
				for when := range w.Time {
					if !view.Same(branch.At(p, next.L[next.Cur], when), branch.At(p, w.L[w.Cur], when)) {
						t.Fatalf("%q, %s of %s: unlike at %d", src, verb, before, when)
					}
				}
			}
			scribble(clone(next), next)
			w = next
		}
	}
	if len(done) != 9 {
		t.Error(done)
	}
	for verb, n := range done {
		if n < 100 {
			t.Error(verb, n)
		}
	}
}

// at is the node at which the branch that goes on is.
func at(p api.Prog, w api.Wood) int {
	m, _ := trace.Machine(p, w.L[w.Cur].Inputs, branch.All(w.L[w.Cur]), w.Time)
	s := m.State()
	if len(s.Calls) == 0 {
		return -1
	}
	return s.Calls[len(s.Calls)-1].Node
}

// scribble appends to each list of a wood, which is to be seen in no other one.
func scribble(c, w api.Wood) {
	before := text(w)
	for i := range c.L {
		c.L[i].Inputs = append(c.L[i].Inputs, 77)
		c.L[i].Own = append(c.L[i].Own, set(0, "z", 1))
		c.L[i].Name = "zz"
	}
	if text(w) != before {
		panic("changed")
	}
}
