package vm

import (
	"furcate/api"
	"furcate/value"
)

// do does an instruction, up to a trap.
func (m *Machine) do(x api.Instr, inputs []int) int {
	switch x.Op {
	case api.OpInt:
		m.push(value.Int(x.A))
	case api.OpBool:
		m.push(value.Bool(x.A == 1))
	case api.OpText:
		m.push(value.Text(x.S))
	case api.OpLoad:
		m.push(m.load(x.A, x.B))
	case api.OpStore:
		m.top().slots[x.A] = m.pop()
	case api.OpPop:
		m.pop()
	case api.OpBin, api.OpNew, api.OpIndex:
		return m.risk(x)
	case api.OpNeg:
		m.push(value.Sign("-", m.pop()))
	case api.OpNot:
		m.push(value.Sign("!", m.pop()))
	case api.OpLen:
		m.push(value.Int(m.length(m.pop())))
	case api.OpPut:
		n := m.pop()
		at := m.pop()
		return m.lists.Put(m.load(x.A, api.TyList).N, at.N, n.N)
	case api.OpInput:
		if m.in >= len(inputs) {
			m.rest(api.Waits, 0)
			return 0
		}
		m.push(value.Int(inputs[m.in]))
		m.in++
	case api.OpPrint:
		v := m.pop()
		if len(m.out) >= api.MaxOut {
			return api.TrapOut
		}
		m.out = append(m.out, value.Word(v))
	default:
		return m.jump(x)
	}
	return 0
}

// load is the value in a slot of the top, or nought of the type, if none of it that may be is there.
func (s *stand) load(slot, t int) api.Value {
	v := s.top().slots[slot]
	if v.Type != t || !value.May(v) {
		return value.Zero(t)
	}
	return v
}

func (s *stand) length(v api.Value) int {
	if v.Type == api.TyText {
		return len(v.S)
	}
	return s.lists.Len(v.N)
}

// risk does an instruction that pushes a value, if there is no trap.
func (m *Machine) risk(x api.Instr) int {
	last := m.pop()
	var v api.Value
	n, trap := 0, 0
	switch x.Op {
	case api.OpBin:
		v, trap = value.Bin(x.S, m.pop(), last)
	case api.OpNew:
		n, trap = m.lists.Make(last.N)
		v = api.Value{Type: api.TyList, N: n}
	case api.OpIndex:
		n, trap = m.lists.Get(m.load(x.A, api.TyList).N, last.N)
		v = value.Int(n)
	}
	if trap == 0 {
		m.push(v)
	}
	return trap
}

// jump does an instruction by which another one than the next follows.
func (m *Machine) jump(x api.Instr) int {
	yes := value.Bool(true)
	switch x.Op {
	case api.OpJump:
		m.top().at = x.A
	case api.OpFalse:
		if m.pop() != yes {
			m.top().at = x.A
		}
	case api.OpAnd, api.OpOr:
		v := m.pop()
		if (v == yes) == (x.Op == api.OpOr) {
			m.push(v)
			m.top().at = x.A
		}
	case api.OpCall:
		handed := m.popAll(x.B)
		if len(m.calls) >= api.MaxFrames {
			return api.TrapFrames
		}
		m.enter(x.A, handed)
	case api.OpRet:
		m.leave(m.pop())
	case api.OpNone:
		m.leave(value.Zero(x.A))
	}
	return 0
}
