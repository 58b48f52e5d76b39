package eval

import (
	"slices"
	"strings"
	"testing"

	"furcate/api"
	"furcate/check"
	"furcate/value"
)

func list(n int) api.Value { return api.Value{Type: api.TyList, N: n} }

// P6.1
func TestGet(t *testing.T) {
	slots := []api.Value{value.Int(7), {}, value.Bool(true), {Type: api.TyBool, N: 3}, {Type: api.TyText, N: 1}, list(2), {Type: api.TyInt, S: "x"}}
	for _, c := range []struct {
		slot, t int
		want    api.Value
	}{
		{0, api.TyInt, value.Int(7)}, {0, api.TyBool, value.Bool(false)}, {1, api.TyInt, value.Int(0)}, {1, 0, api.Value{}},
		{2, api.TyBool, value.Bool(true)}, {3, api.TyBool, value.Bool(false)}, {4, api.TyText, value.Text("")}, {5, api.TyList, list(2)},
		{6, api.TyInt, value.Int(0)}, {-1, api.TyInt, value.Int(0)}, {7, api.TyList, list(0)}, {1 << 60, api.TyText, value.Text("")}, {0, 9, value.Zero(9)},
	} {
		if got := Get(slots, c.slot, c.t); got != c.want {
			t.Errorf("slot %d type %d: %v", c.slot, c.t, got)
		}
	}
	if Get(nil, 0, api.TyInt) != value.Int(0) {
		t.Error("no slots")
	}
}

// P6.1
func TestList(t *testing.T) {
	heap := [][]int{{1, 2}, {}, {3}}
	for v, want := range map[api.Value][]int{
		list(1): {1, 2}, list(2): nil, list(3): {3}, list(0): nil, list(4): nil, list(-1): nil, list(1 << 62): nil, value.Int(1): nil, {}: nil,
	} {
		if got := List(heap, v); !slices.Equal(got, want) {
			t.Error(v, got)
		}
	}
}

// P6.2
func TestExpr(t *testing.T) {
	head := "fn none(){}fn main(){let a=7;let b=true;let s=\"abc\";let l=new(2);let e=new(0);print "
	slots := []api.Value{value.Int(7), value.Bool(true), value.Text("abc"), list(2), list(9)}
	heap := [][]int{{}, {5, 6}}
	for src, want := range map[string]struct {
		v    api.Value
		trap int
	}{
		"12":                               {value.Int(12), 0},
		"true":                             {value.Bool(true), 0},
		"false":                            {value.Bool(false), 0},
		"\"x y\"":                          {value.Text("x y"), 0},
		"a":                                {value.Int(7), 0},
		"b":                                {value.Bool(true), 0},
		"s+s":                              {value.Text("abcabc"), 0},
		"l[0]":                             {value.Int(5), 0},
		"l[len(s)-2]":                      {value.Int(6), 0},
		"l[2]":                             {api.Value{}, api.TrapIndex},
		"l[-1]":                            {api.Value{}, api.TrapIndex},
		"l[a-9223372036854775807-9]":       {api.Value{}, api.TrapIndex},
		"e[0]":                             {api.Value{}, api.TrapIndex},
		"l[1/0]":                           {api.Value{}, api.TrapDiv},
		"e[1/0]":                           {api.Value{}, api.TrapDiv},
		"len(s)":                           {value.Int(3), 0},
		"len(\"\")":                        {value.Int(0), 0},
		"len(l)":                           {value.Int(2), 0},
		"len(e)":                           {value.Int(0), 0},
		"-a":                               {value.Int(-7), 0},
		"!b":                               {value.Bool(false), 0},
		"-(a/0)":                           {api.Value{}, api.TrapDiv},
		"1+2*a":                            {value.Int(15), 0},
		"a<9||1/0==1":                      {value.Bool(true), 0},
		"a<7||1/0==1":                      {api.Value{}, api.TrapDiv},
		"a<7&&1/0==1":                      {value.Bool(false), 0},
		"b&&1/0==1":                        {api.Value{}, api.TrapDiv},
		"b&&a<9":                           {value.Bool(true), 0},
		"!b||!b":                           {value.Bool(false), 0},
		"1/0<l[9]":                         {api.Value{}, api.TrapDiv},
		"l[9]<1/0":                         {api.Value{}, api.TrapIndex},
		"1/0==1||true":                     {api.Value{}, api.TrapDiv},
		"a%0==0":                           {api.Value{}, api.TrapDiv},
		"s+s+s+s+s+s+s+s+s+s+s+s+s+\"d\"":  {value.Text(strings.Repeat("abc", 13) + "d"), 0},
		"s+s+s+s+s+s+s+s+s+s+s+s+s+\"de\"": {api.Value{}, api.TrapLong},
	} {
		p, at, e := check.Source(head + src + ";}")
		if e != api.OK {
			t.Fatalf("%q: %d at %d", src, e, at)
		}
		x := p.Tree.Nodes[p.Tree.Fns[1].Body-1].L[0]
		if got, trap := Expr(p, x, slots, heap); got != want.v || trap != want.trap {
			t.Errorf("%q: %v %d", src, got, trap)
		}
		// P6.3, also of slots without values of their types.
		for _, some := range [][]api.Value{slots, nil, make([]api.Value, 5), {list(2), list(2), list(2), value.Int(1), value.Text("x")}} {
			got, trap := Expr(p, x, some, nil)
			if trap == 0 && (got.Type != p.Types[x] || !value.May(got)) || trap != 0 && got != (api.Value{}) {
				t.Errorf("%q: %v %d", src, got, trap)
			}
		}
	}
}
