package source

import (
	"furcate/api"
	"furcate/eval"
	"furcate/value"
)

// run is a statement that is being done, of a state of its own.
type run struct {
	p      api.Prog
	s      api.State
	inputs []int
	waits  bool
}

// do does a statement, up to a trap.
func (r *run) do(at int) int {
	var work func(at int, n api.Node) int
	n := r.p.Tree.Nodes[at]
	switch n.Kind {
	case api.NLet, api.NSet:
		work = r.change
	case api.NPut:
		work = r.put
	case api.NDo:
		work = r.call
	case api.NPrint:
		work = r.print
	case api.NIf:
		work = r.choose
	case api.NWhile:
		work = r.again
	default:
		work = r.back
	}
	return work(at, n)
}

func (r *run) top() *api.Frame { return &r.s.Frames[len(r.s.Frames)-1] }

func (r *run) goOn() {
	path := r.top().Path
	path[len(path)-1].At++
}

// enter puts a call on top, with what it is handed.
func (r *run) enter(fn int, handed []api.Value) {
	slots := make([]api.Value, r.p.Size[fn])
	copy(slots, handed)
	r.s.Frames = append(r.s.Frames, api.Frame{Fn: fn, Slots: slots})
	r.inside(r.p.Tree.Fns[fn].Body)
}

func (r *run) inside(block int) {
	top := r.top()
	top.Path = append(top.Path, api.Place{Block: block})
}

// settle leaves all blocks and calls that are done.
func (r *run) settle() {
	for len(r.s.Frames) > 0 {
		top := r.top()
		if len(top.Path) == 0 {
			r.tell(value.Zero(r.p.Tree.Fns[top.Fn].Ret))
			continue
		}
		last := top.Path[len(top.Path)-1]
		if last.At < len(r.p.Tree.Nodes[last.Block].L) {
			return
		}
		top.Path = top.Path[:len(top.Path)-1]
	}
}

// tell leaves a call: the statement that called it is done then.
func (r *run) tell(v api.Value) {
	r.s.Frames = r.s.Frames[:len(r.s.Frames)-1]
	if len(r.s.Frames) == 0 {
		r.s.Status = api.Ends
		return
	}
	at := Next(r.p, r.s)
	if r.p.Tree.Nodes[at].Kind != api.NDo {
		r.top().Slots[r.p.Slots[at]] = v
	}
	r.goOn()
}

func (r *run) expr(at int) (api.Value, int) {
	return eval.Expr(r.p, at, r.top().Slots, r.s.Heap)
}

// all are the values of expressions, up to the first trap.
func (r *run) all(l []int) ([]api.Value, int) {
	var out []api.Value
	for _, at := range l {
		v, trap := r.expr(at)
		if trap != 0 {
			return nil, trap
		}
		out = append(out, v)
	}
	return out, 0
}

func (r *run) change(at int, n api.Node) int {
	right := r.p.Tree.Nodes[n.L[0]]
	var v api.Value
	var trap int
	switch right.Kind {
	case api.NCall:
		return r.call(at, n)
	case api.NInput:
		if r.s.In >= len(r.inputs) {
			r.waits = true
			return 0
		}
		v = value.Int(r.inputs[r.s.In])
		r.s.In++
	case api.NNew:
		v, trap = r.fresh(right.L[0])
	default:
		v, trap = r.expr(n.L[0])
	}
	if trap != 0 {
		return trap
	}
	r.top().Slots[r.p.Slots[at]] = v
	r.goOn()
	return 0
}

func (r *run) fresh(size int) (api.Value, int) {
	v, trap := r.expr(size)
	switch {
	case trap != 0:
		return api.Value{}, trap
	case v.N < 0 || v.N > api.MaxSize:
		return api.Value{}, api.TrapSize
	case Cells(r.s.Heap)+v.N+1 > api.MaxCells:
		return api.Value{}, api.TrapCells
	}
	r.s.Heap = append(r.s.Heap, make([]int, v.N))
	return api.Value{Type: api.TyList, N: len(r.s.Heap)}, 0
}

// call enters the function that a statement calls; the statement goes on when that tells.
func (r *run) call(_ int, n api.Node) int {
	called := r.p.Tree.Nodes[n.L[0]]
	handed, trap := r.all(called.L)
	if trap != 0 {
		return trap
	}
	if len(r.s.Frames) >= api.MaxFrames {
		return api.TrapFrames
	}
	for i, f := range r.p.Tree.Fns {
		if f.Name == called.Name {
			r.enter(i, handed)
		}
	}
	return 0
}

func (r *run) put(at int, n api.Node) int {
	l, trap := r.all(n.L)
	if trap != 0 {
		return trap
	}
	list := eval.List(r.s.Heap, eval.Get(r.top().Slots, r.p.Slots[at], api.TyList))
	if l[0].N < 0 || l[0].N >= len(list) {
		return api.TrapIndex
	}
	// The list is of this state's own, so that no other one is changed.
	list[l[0].N] = l[1].N
	r.goOn()
	return 0
}

func (r *run) print(_ int, n api.Node) int {
	v, trap := r.expr(n.L[0])
	if trap != 0 {
		return trap
	}
	if len(r.s.Out) >= api.MaxOut {
		return api.TrapOut
	}
	r.s.Out = append(r.s.Out, value.Word(v))
	r.goOn()
	return 0
}

func (r *run) choose(_ int, n api.Node) int {
	v, trap := r.expr(n.L[0])
	if trap != 0 {
		return trap
	}
	r.goOn()
	if v.N == 1 {
		r.inside(n.L[1])
	} else if len(n.L) > 2 {
		r.inside(n.L[2])
	}
	return 0
}

func (r *run) again(_ int, n api.Node) int {
	v, trap := r.expr(n.L[0])
	if trap != 0 {
		return trap
	}
	if v.N == 1 {
		r.inside(n.L[1])
	} else {
		r.goOn()
	}
	return 0
}

func (r *run) back(_ int, n api.Node) int {
	v := value.Zero(api.TyNone)
	if len(n.L) > 0 {
		told, trap := r.expr(n.L[0])
		if trap != 0 {
			return trap
		}
		v = told
	}
	r.tell(v)
	return 0
}
