package replay

import (
	"math"
	"reflect"
	"slices"
	"testing"

	"furcate/api"
	"furcate/check"
	"furcate/keep"
	"furcate/samples"
	"furcate/trace"
	"furcate/value"
)

func prog(t *testing.T, src string) api.Prog {
	t.Helper()
	p, at, e := check.Source(src)
	if e != api.OK {
		t.Fatalf("%q: %d at %d", src, e, at)
	}
	return p
}

// P15.1: what seeks cost, and what is kept.
func TestCost(t *testing.T) {
	loop := prog(t, "fn main(){let a=0;while true{a=a+1;}}")
	waits := prog(t, "fn main(){let a=0;a=a;a=input;}")
	ends := prog(t, "fn main(){let a=0;a=1;}")
	falls := prog(t, "fn main(){let a=0;a=1/0;}")
	for i, c := range []struct {
		p           api.Prog
		most, every int
		seeks       []int
		costs       []int
		times       []int
	}{
		{loop, 9, 5, []int{12, 11}, []int{12, 13}, []int{0, 5, 10}},
		{loop, 9, 5, []int{0, -3, 4, 5, 6}, []int{0, 0, 4, 9, 10}, []int{0, 5}},
		{loop, 9, 5, []int{5, 5, 10, 10}, []int{5, 5, 10, 10}, []int{0, 5, 10}},
		{loop, 9, 1, []int{3, 2, 3}, []int{3, 3, 3}, []int{0, 1, 2, 3}},
		{loop, 9, 0, []int{3}, []int{3}, []int{0, 1, 2, 3}},
		{loop, 9, math.MinInt, []int{3}, []int{3}, []int{0, 1, 2, 3}},
		{loop, 2, 5, []int{20, 12}, []int{20, 32}, []int{0, 20}},
		{loop, 1, 5, []int{12, 11}, []int{12, 23}, []int{0}},
		{loop, 0, 5, []int{12, 11}, []int{12, 23}, []int{0}},
		{loop, 3, 50, []int{500, 200, math.MaxInt}, []int{200, 200, 200}, []int{0, 100, 200}},
		{loop, 9, math.MaxInt, []int{7, 7}, []int{7, 14}, []int{0}},
		{waits, 9, 1, []int{1, 9, 9, 2}, []int{1, 3, 4, 4}, []int{0, 1, 2}},
		{ends, 9, 1, []int{9, 2, 3}, []int{3, 3, 4}, []int{0, 1, 2}},
		{falls, 9, 1, []int{9, 2, 3}, []int{3, 3, 4}, []int{0, 1, 2}},
	} {
		r := New(c.p, nil, nil, c.most, c.every)
		if r.Cost() != 0 || !slices.Equal(r.Times(), []int{0}) {
			t.Error(i, "at the beginning")
		}
		for k, at := range c.seeks {
			r.Seek(at)
			if r.Cost() != c.costs[k] {
				t.Errorf("%d, Seek(%d): cost %d, not %d", i, at, r.Cost(), c.costs[k])
			}
		}
		if !slices.Equal(r.Times(), c.times) {
			t.Errorf("%d: %v, not %v", i, r.Times(), c.times)
		}
	}
}

// model is what is kept and what is done, in plain words, of times alone.
type model struct {
	k     *keep.Keep[int]
	every int
	cost  int
}

func (m *model) seek(t, end int) {
	t = min(max(t, 0), api.MaxTime)
	at, _, _ := m.k.Best(t)
	for at < t {
		m.cost++
		if at == end {
			return
		}
		at++
		if best, _, _ := m.k.Best(at); at%m.every == 0 && best != at {
			m.k.Put(at, 0)
		}
	}
}

// P15.1, P15.2, P15.3: whatever was sought ahead, it is as from the beginning on.
func TestAsFromTheBeginning(t *testing.T) {
	for n := range 500 {
		mk := samples.New(n)
		src, p := mk.Program()
		inputs := mk.Inputs(5)
		l := mk.Edits(p, inputs, 5, 12)
		most, every := mk.Pick(7)-1, mk.Pick(9)-1
		r := New(p, inputs, l, most, every)
		m := model{k: keep.New[int](most), every: max(every, 1)}
		m.k.Put(0, 0)
		for range 25 {
			at := mk.Pick(45) - 2
			if mk.Pick(12) == 0 {
				at = math.MaxInt - mk.Pick(2)
			}
			want, bad := trace.Machine(p, inputs, l, at)
			ends, _ := trace.Machine(p, inputs, l, api.MaxTime)
			ahead := r.Cost()
			got, told := r.Seek(at)
			if told != bad || !reflect.DeepEqual(got, want.State()) {
				t.Fatalf("%q %v %v, Seek(%d): %d %+v, not %d %+v", src, inputs, l, at, told, got, bad, want.State())
			}
			m.seek(at, ends.State().Time)
			if r.Cost() != m.cost || r.Cost()-ahead > max(min(at, api.MaxTime), 0) || !slices.Equal(r.Times(), m.k.Times()) {
				t.Fatalf("%q, Seek(%d): cost %d, not %d; kept %v, not %v", src, at, r.Cost(), m.cost, r.Times(), m.k.Times())
			}
			if mk.Pick(3) == 0 {
				from := mk.Pick(14) - 1
				inputs, l = changed(mk, p, inputs, l, from)
				r.Change(inputs, l, from)
				m.k.Drop(max(from, 0))
				if r.Cost() != m.cost || !slices.Equal(r.Times(), m.k.Times()) {
					t.Fatal("Change costs nothing, and drops what is behind")
				}
			}
		}
	}
}

// changed has one input more, and other edits from a time on.
func changed(mk *samples.Maker, p api.Prog, inputs []int, l []api.Edit, from int) ([]int, []api.Edit) {
	inputs = append(slices.Clone(inputs), mk.Pick(5))
	var out []api.Edit
	for _, x := range l {
		if x.At < from {
			out = append(out, x)
		}
	}
	for _, x := range mk.Edits(p, inputs, 3, 14) {
		if x.At >= from {
			out = append(out, x)
		}
	}
	return inputs, out
}

// P15.2
func TestChange(t *testing.T) {
	p := prog(t, "fn main(){let a=0;while true{a=a+1;}}")
	set := func(at, n int) api.Edit { return api.Edit{At: at, Name: "a", V: value.Int(n)} }
	for from, want := range map[int][]int{math.MinInt: {0}, -1: {0}, 0: {0}, 4: {0}, 5: {0, 5}, 9: {0, 5}, 10: {0, 5, 10}, 99: {0, 5, 10}} {
		r := New(p, nil, nil, 9, 5)
		r.Seek(12)
		r.Change(nil, nil, from)
		if got := r.Times(); !slices.Equal(got, want) {
			t.Errorf("from %d: %v", from, got)
		}
	}
	r := New(p, nil, []api.Edit{set(5, 100)}, 9, 5)
	r.Seek(12)
	r.Change(nil, []api.Edit{set(5, 200), set(7, 300)}, 5)
	s, bad := r.Seek(7)
	if bad != 0 || s.Calls[0].Slots[0] != value.Int(300) || r.Cost() != 14 {
		t.Error(s, bad, r.Cost())
	}
	if s, _ := r.Seek(6); s.Calls[0].Slots[0].N != 200 && s.Calls[0].Slots[0].N != 201 {
		t.Error(s)
	}
	// A wait is none any more with one input more.
	p = prog(t, "fn main(){let a=input;a=input;}")
	r = New(p, []int{1}, nil, 9, 1)
	if s, _ := r.Seek(9); s.Status != api.Waits || s.Time != 1 {
		t.Error(s)
	}
	r.Change([]int{1, 2}, nil, 200)
	if s, _ := r.Seek(9); s.Status != api.Ends || s.Time != 2 {
		t.Error(s)
	}
}

// R7: what is handed in is neither changed nor kept.
func TestOwn(t *testing.T) {
	p := prog(t, "fn main(){let a=input;let b=2;while true{b=b+a;}}")
	inputs, edits := []int{3}, []api.Edit{{At: 2, Name: "b", V: value.Int(9)}}
	r := New(p, inputs, edits, 3, 2)
	inputs[0], edits[0].V.N = 50, 60
	s, bad := r.Seek(4)
	if bad != 0 || s.Calls[0].Slots[0].N != 3 || s.Calls[0].Slots[1].N != 12 {
		t.Error(s, bad)
	}
	s.Calls[0].Slots[0].N = 70
	if s, _ := r.Seek(4); s.Calls[0].Slots[0].N != 3 {
		t.Error(s)
	}
	inputs, edits = []int{3, 4}, []api.Edit{{At: 2, Name: "b", V: value.Int(10)}}
	r.Change(inputs, edits, 2)
	inputs[0], edits[0].V.N = 50, 60
	if s, _ := r.Seek(4); s.Calls[0].Slots[0].N != 3 || s.Calls[0].Slots[1].N != 13 {
		t.Error(s)
	}
	for i := range p.Tree.Nodes {
		p.Tree.Nodes[i].Kind, p.Types[i] = 0, 0
	}
	for i := range p.Tree.Fns {
		p.Tree.Fns[i].Body = 0
	}
	r.Change([]int{3, 4}, []api.Edit{{At: 2, Name: "b", V: value.Int(11)}}, 0)
	if s, bad := r.Seek(4); bad != 0 || s.Calls[0].Slots[1].N != 14 {
		t.Error(s, bad)
	}
}

// R1: a replay that no one made new has nothing to go to.
func TestNought(t *testing.T) {
	r := &Replay{}
	r.Change(nil, nil, 3)
	if s, bad := r.Seek(5); bad != 0 || len(s.Calls) != 0 || r.Cost() != 0 || len(r.Times()) != 0 {
		t.Error("nought")
	}
}
