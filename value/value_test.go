package value

import (
	"math"
	"strings"
	"testing"

	"furcate/api"
)

// P5.1
func TestMake(t *testing.T) {
	for got, want := range map[api.Value]api.Value{
		Int(-3):    {Type: api.TyInt, N: -3},
		Bool(true): {Type: api.TyBool, N: 1}, Bool(false): {Type: api.TyBool},
		Text("a"): {Type: api.TyText, S: "a"}, Text(""): {Type: api.TyText},
		Zero(api.TyList): {Type: api.TyList}, Zero(0): {}, Zero(-7): {Type: -7},
	} {
		if got != want {
			t.Error(got, want)
		}
	}
	if long := strings.Repeat("x", 50); Text(long).S != long {
		t.Error("a text of any length")
	}
}

// P5.1
func TestMay(t *testing.T) {
	for v, want := range map[api.Value]bool{
		{}: false, {N: 1}: false, {Type: 5}: false, {Type: -1}: false,
		Int(0): true, Int(math.MinInt): true, {Type: api.TyInt, N: 1, S: "x"}: false,
		Bool(true): true, Bool(false): true, {Type: api.TyBool, N: 2}: false, {Type: api.TyBool, N: -1}: false, {Type: api.TyBool, S: "x"}: false,
		Text(""): true, Text(strings.Repeat("x", 40)): true, Text(strings.Repeat("x", 41)): false, {Type: api.TyText, N: 1, S: "x"}: false, Text("\x00\xff"): true,
		Zero(api.TyList): true, {Type: api.TyList, N: 99}: true, {Type: api.TyList, N: -1}: false, {Type: api.TyList, N: 1, S: "x"}: false,
	} {
		if May(v) != want {
			t.Error(v, !want)
		}
	}
}

// P5.2
func TestBin(t *testing.T) {
	none := api.Value{}
	list := func(n int) api.Value { return api.Value{Type: api.TyList, N: n} }
	odd := api.Value{Type: api.TyBool, N: 2}
	x20 := strings.Repeat("x", 20)
	for _, c := range []struct {
		sign string
		a, b api.Value
		want api.Value
		trap int
	}{
		{"+", Int(2), Int(3), Int(5), 0},
		{"+", Int(math.MaxInt), Int(1), Int(math.MinInt), 0},
		{"-", Int(2), Int(3), Int(-1), 0},
		{"-", Int(math.MinInt), Int(1), Int(math.MaxInt), 0},
		{"*", Int(-2), Int(3), Int(-6), 0},
		{"*", Int(math.MaxInt), Int(2), Int(-2), 0},
		{"/", Int(7), Int(2), Int(3), 0},
		{"/", Int(-7), Int(2), Int(-3), 0},
		{"/", Int(7), Int(-2), Int(-3), 0},
		{"%", Int(7), Int(-2), Int(1), 0},
		{"%", Int(-7), Int(2), Int(-1), 0},
		{"/", Int(math.MinInt), Int(-1), Int(math.MinInt), 0},
		{"%", Int(math.MinInt), Int(-1), Int(0), 0},
		{"/", Int(7), Int(0), none, api.TrapDiv},
		{"%", Int(0), Int(0), none, api.TrapDiv},
		{"/", Bool(true), Int(0), none, 0},
		{"/", Text("a"), Text("a"), none, 0},
		{"<", Int(1), Int(2), Bool(true), 0},
		{"<", Int(2), Int(2), Bool(false), 0},
		{"<=", Int(2), Int(2), Bool(true), 0},
		{"<=", Int(3), Int(2), Bool(false), 0},
		{"<", Text("a"), Text("b"), none, 0},
		{"==", Int(2), Int(2), Bool(true), 0},
		{"!=", Int(2), Int(2), Bool(false), 0},
		{"==", Int(2), Int(3), Bool(false), 0},
		{"!=", Text("a"), Text("b"), Bool(true), 0},
		{"==", Text("a"), Text("a"), Bool(true), 0},
		{"==", Bool(true), Bool(true), Bool(true), 0},
		{"==", Bool(true), odd, Bool(false), 0},
		{"==", Int(1), Bool(true), none, 0},
		{"==", list(1), list(1), Bool(true), 0},
		{"!=", list(1), list(2), Bool(true), 0},
		{"==", api.Value{Type: api.TyInt, N: 1, S: "x"}, Int(1), Bool(false), 0},
		{"==", none, none, none, 0},
		{"!=", Zero(5), Zero(5), none, 0},
		{"||", Bool(false), Bool(true), Bool(true), 0},
		{"||", Bool(false), odd, Bool(false), 0},
		{"&&", Bool(true), Bool(true), Bool(true), 0},
		{"&&", Bool(true), Bool(false), Bool(false), 0},
		{"&&", Int(1), Int(1), none, 0},
		{"+", Bool(true), Bool(true), none, 0},
		{"<", Bool(false), Bool(true), none, 0},
		{"+", Text("a"), Text("b"), Text("ab"), 0},
		{"+", Text(x20), Text(x20), Text(x20 + x20), 0},
		{"+", Text(x20), Text(x20 + "y"), none, api.TrapLong},
		{"+", Text(""), Text(x20 + x20 + "y"), none, api.TrapLong},
		{"-", Text(x20 + x20), Text(x20), none, 0},
		{"+", Text("a"), Int(1), none, 0},
		{"+", list(1), list(1), none, 0},
		{"", Int(1), Int(1), none, 0},
		{"=", Int(1), Int(1), none, 0},
		{"!", Bool(true), Bool(true), none, 0},
	} {
		if got, trap := Bin(c.sign, c.a, c.b); got != c.want || trap != c.trap {
			t.Errorf("%v %s %v: %v %d", c.a, c.sign, c.b, got, trap)
		}
	}
}

// P5.2
func TestSign(t *testing.T) {
	for _, c := range []struct {
		sign    string
		a, want api.Value
	}{
		{"-", Int(3), Int(-3)}, {"-", Int(math.MinInt), Int(math.MinInt)}, {"!", Bool(true), Bool(false)}, {"!", Bool(false), Bool(true)},
		{"!", api.Value{Type: api.TyBool, N: 2}, Bool(true)}, {"!", Int(1), api.Value{}}, {"-", Bool(true), api.Value{}}, {"+", Int(1), api.Value{}}, {"-", Text("1"), api.Value{}},
	} {
		if got := Sign(c.sign, c.a); got != c.want {
			t.Errorf("%s %v: %v", c.sign, c.a, got)
		}
	}
}

// P5.3
func TestWords(t *testing.T) {
	for v, want := range map[api.Value][2]string{
		Int(0): {"0", "0"}, Int(-12): {"-12", "-12"}, Int(math.MinInt): {"-9223372036854775808", "-9223372036854775808"},
		Bool(true): {"true", "true"}, Bool(false): {"false", "false"}, {Type: api.TyBool, N: 2}: {"false", "false"},
		Text("a b"): {"a b", "\"a b\""}, Text(""): {"", "\"\""}, {Type: api.TyList, N: 3}: {"list", "list"},
		{}: {"", ""}, {Type: 5, N: 1, S: "x"}: {"", ""},
	} {
		if Word(v) != want[0] || Quoted(v) != want[1] {
			t.Errorf("%v: %q %q", v, Word(v), Quoted(v))
		}
	}
}

// P5.4
func TestStaysOne(t *testing.T) {
	l := []api.Value{Int(0), Int(-1), Int(math.MinInt), Int(math.MaxInt), Bool(true), Bool(false), Text(""), Text(strings.Repeat("a", 21)), Text(strings.Repeat("b", 40)), Zero(api.TyList), {Type: api.TyList, N: 7}}
	for _, sign := range strings.Fields("|| && < <= == != + - * / % !") {
		for _, a := range l {
			if v := Sign(sign, a); v != (api.Value{}) && !May(v) {
				t.Error(sign, a, v)
			}
			for _, b := range l {
				if v, trap := Bin(sign, a, b); v != (api.Value{}) && (!May(v) || trap != 0) {
					t.Error(sign, a, b, v, trap)
				}
			}
		}
	}
}
