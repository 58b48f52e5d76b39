// Package samples makes programs, inputs and edits for tests: the same ones of the same number.
package samples

import (
	"strconv"
	"strings"

	"furcate/api"
	"furcate/check"
	"furcate/source"
)

// Maker picks from what may stand at a place.
type Maker struct {
	x    uint64
	vars []api.Var
	fns  []api.Func
	ret  int
	left int
}

// New is a maker of that number.
func New(number int) *Maker {
	m := &Maker{x: uint64(number)*2654435761 + 88172645463325252}
	m.Pick(2)
	return m
}

// Pick tells a number from 0 to n-1.
func (m *Maker) Pick(n int) int {
	m.x ^= m.x << 13
	m.x ^= m.x >> 7
	m.x ^= m.x << 17
	return int(m.x>>20) % n
}

// Program tells a source and its program; of each number there is one.
func (m *Maker) Program() (string, api.Prog) {
	for {
		src := m.source()
		if p, _, e := check.Source(src); e == api.OK {
			return src, p
		}
	}
}

// Inputs tells up to so many numbers.
func (m *Maker) Inputs(most int) []int {
	var out []int
	for range m.Pick(most + 1) {
		out = append(out, m.Pick(7)-1)
	}
	return out
}

// Value tells one of a type, or sometimes of another one.
func (m *Maker) Value(t int) api.Value {
	if m.Pick(16) == 0 {
		t = m.Pick(5)
	}
	v := api.Value{Type: t}
	switch t {
	case api.TyText:
		v.S = m.text()
	case api.TyBool:
		v.N = m.Pick(2)
	default:
		v.N = m.Pick(9) - 2
	}
	return v
}

// Edits tells up to so many, of times below upto; most of them can be set.
func (m *Maker) Edits(p api.Prog, inputs []int, most, upto int) []api.Edit {
	var out []api.Edit
	s := source.Start(p)
	for at := range upto {
		for len(out) < most && m.Pick(4) == 0 {
			x := m.edit(check.Visible(p, source.Next(p, s)))
			x.At = at
			out = append(out, x)
			s, _ = source.Set(p, s, x.Name, x.V)
		}
		s = source.Step(p, s, inputs)
	}
	return out
}

func (m *Maker) edit(visible []api.Var) api.Edit {
	if len(visible) == 0 || m.Pick(20) == 0 {
		return api.Edit{Name: m.one("v0", "v1", "p0"), V: m.Value(api.TyInt)}
	}
	x := visible[m.Pick(len(visible))]
	if x.Type == api.TyList {
		x = visible[m.Pick(len(visible))]
	}
	return api.Edit{Name: x.Name, V: m.Value(x.Type)}
}

func (m *Maker) one(l ...string) string { return l[m.Pick(len(l))] }

func (m *Maker) text() string { return strings.Repeat(m.one("", "x", "ab", "+", "#1"), 1+m.Pick(3)) }

func (m *Maker) source() string {
	m.fns = nil
	for i := range m.Pick(3) {
		f := api.Func{Name: "f" + strconv.Itoa(i), Ret: m.Pick(5)}
		for k := range m.Pick(3) {
			f.Params = append(f.Params, api.Param{Name: "p" + strconv.Itoa(k), Type: 1 + m.Pick(4)})
		}
		m.fns = append(m.fns, f)
	}
	var b strings.Builder
	for _, f := range m.fns {
		var params []string
		m.vars, m.ret, m.left = nil, f.Ret, 5
		for _, x := range f.Params {
			m.vars = append(m.vars, api.Var{Name: x.Name, Type: x.Type})
			params = append(params, x.Name+" "+word(x.Type))
		}
		b.WriteString("fn " + f.Name + "(" + strings.Join(params, ",") + ")" + word(f.Ret) + m.block(2) + "\n")
	}
	m.vars, m.ret, m.left = nil, api.TyNone, 14
	b.WriteString("fn main()" + m.block(3))
	return b.String()
}

func word(t int) string {
	return [...]string{"", "int", "bool", "text", "list"}[t]
}

func (m *Maker) block(deep int) string {
	ahead := len(m.vars)
	s := "{"
	for range 1 + m.Pick(4+2*deep) {
		if m.left > 0 {
			m.left--
			s += m.statement(deep)
			if m.Pick(4) == 0 {
				s += "\n"
			}
		}
	}
	m.vars = m.vars[:ahead]
	return s + "}"
}

func (m *Maker) statement(deep int) string {
	k := m.Pick(16)
	switch {
	case k < 4 || len(m.vars) == 0:
		t := 1 + m.Pick(4)
		name := "v" + strconv.Itoa(len(m.vars))
		right := m.right(t)
		m.vars = append(m.vars, api.Var{Name: name, Type: t})
		return "let " + name + "=" + right + ";"
	case k < 6:
		v := m.vars[m.Pick(len(m.vars))]
		return v.Name + "=" + m.right(v.Type) + ";"
	case k < 8:
		if l := m.names(api.TyList); len(l) > 0 {
			return m.one(l...) + "[" + m.small() + "]=" + m.expr(api.TyInt, 1) + ";"
		}
	case k < 10 && deep > 0:
		s := "if " + m.expr(api.TyBool, 2) + m.block(deep-1)
		if m.Pick(2) == 0 {
			s += "else" + m.block(deep-1)
		}
		return s
	case k < 12 && deep > 0:
		return "while " + m.expr(api.TyBool, 2) + m.block(deep-1)
	case k < 14:
		if s := m.call(-1); s != "" {
			return s + ";"
		}
	case k == 14 && m.Pick(3) == 0:
		if m.ret == api.TyNone {
			return "return;"
		}
		return "return " + m.expr(m.ret, 1) + ";"
	}
	return "print " + m.expr(1+m.Pick(3), 2) + ";"
}

// call tells a call of a function of a type (-1: of any), or nothing.
func (m *Maker) call(t int) string {
	if len(m.fns) == 0 {
		return ""
	}
	f := m.fns[m.Pick(len(m.fns))]
	if t >= 0 && f.Ret != t {
		return ""
	}
	var l []string
	for _, x := range f.Params {
		l = append(l, m.expr(x.Type, 1))
	}
	return f.Name + "(" + strings.Join(l, ",") + ")"
}

func (m *Maker) right(t int) string {
	if s := m.call(t); s != "" && m.Pick(2) == 0 {
		return s
	}
	switch {
	case t == api.TyInt && m.Pick(4) == 0:
		return "input"
	case t == api.TyList && m.Pick(2) == 0, t == api.TyList && len(m.names(t)) == 0:
		return "new(" + m.small() + ")"
	}
	return m.expr(t, 2)
}

func (m *Maker) names(t int) []string {
	var out []string
	for _, v := range m.vars {
		if v.Type == t {
			out = append(out, v.Name)
		}
	}
	return out
}

func (m *Maker) small() string {
	if l := m.names(api.TyInt); len(l) > 0 && m.Pick(3) == 0 {
		return m.one(l...)
	}
	return strconv.Itoa(m.Pick(4))
}

func (m *Maker) expr(t, deep int) string {
	if l := m.names(t); len(l) > 0 && m.Pick(2) == 0 || t == api.TyList {
		if len(l) == 0 {
			return "none"
		}
		return m.one(l...)
	}
	if deep == 0 {
		switch t {
		case api.TyInt:
			return strconv.Itoa(m.Pick(6))
		case api.TyBool:
			return m.one("true", "false")
		}
		return "\"" + m.text() + "\""
	}
	switch t {
	case api.TyInt:
		return m.number(deep - 1)
	case api.TyBool:
		return m.truth(deep - 1)
	}
	return m.expr(t, deep-1) + "+" + m.expr(t, 0)
}

func (m *Maker) number(deep int) string {
	if l := m.names(api.TyList); len(l) > 0 && m.Pick(3) == 0 {
		return m.one(m.one(l...)+"["+m.small()+"]", "len("+m.one(l...)+")")
	}
	switch m.Pick(6) {
	case 0:
		return "-(" + m.expr(api.TyInt, deep) + ")"
	case 1:
		return "len(" + m.expr(api.TyText, deep) + ")"
	}
	return "(" + m.expr(api.TyInt, deep) + m.one("+", "+", "-", "*", "/", "%") + m.expr(api.TyInt, 0) + ")"
}

func (m *Maker) truth(deep int) string {
	switch m.Pick(5) {
	case 0:
		return "!(" + m.expr(api.TyBool, deep) + ")"
	case 1:
		return "(" + m.expr(api.TyBool, deep) + m.one("&&", "||", "==", "!=") + m.expr(api.TyBool, deep) + ")"
	case 2:
		return "(" + m.expr(api.TyText, deep) + m.one("==", "!=") + m.expr(api.TyText, 0) + ")"
	}
	return "(" + m.expr(api.TyInt, deep) + m.one("<", "<=", "==", "!=") + m.expr(api.TyInt, 0) + ")"
}
