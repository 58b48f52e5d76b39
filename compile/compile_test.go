package compile

import (
	"slices"
	"strings"
	"testing"

	"furcate/api"
	"furcate/check"
	"furcate/code"
)

func prog(t *testing.T, src string) api.Prog {
	t.Helper()
	p, at, e := check.Source(src)
	if e != api.OK {
		t.Fatalf("%q: %d at %d", src, e, at)
	}
	return p
}

func lines(c api.Code) string {
	var out []string
	for _, x := range c.Ins {
		out = append(out, strings.TrimSpace(code.Line(x)))
	}
	return strings.Join(out, ", ")
}

// P9.1
func TestMain(t *testing.T) {
	for src, want := range map[string]int{"fn main(){}": 0, "fn a(){}fn main(){}": 1, "fn a(){}fn b(){}fn main(){}fn c(){}": 2} {
		if got := Main(prog(t, src)); got != want {
			t.Errorf("%q: %d", src, got)
		}
	}
}

// P9.1, P9.2, P9.3
func TestAll(t *testing.T) {
	for body, want := range map[string]string{
		"":                                        "none 0",
		"print 1+2;":                              "mark 3, int 1, int 2, bin +, print, none 0",
		"let a=input;a=a;":                        "mark 1, input, store 0, mark 3, load 0 1, store 0, none 0",
		"let a=new(2);a[0]=5;":                    "mark 2, int 2, new, store 0, mark 5, int 0, int 5, put 0, none 0",
		"let a=\"x\";print len(a);":               "mark 1, text x, store 0, mark 4, load 0 3, len, print, none 0",
		"let a=new(0);print -a[1];":               "mark 2, int 0, new, store 0, mark 6, int 1, index 0, neg, print, none 0",
		"print !true;print false;":                "mark 2, bool 1, not, print, mark 4, bool 0, print, none 0",
		"main();return;":                          "mark 1, call 0 0, pop, mark 2, none 0, none 0",
		"print true&&false;":                      "mark 3, bool 1, and 4, bool 0, print, none 0",
		"print true||false||true;":                "mark 5, bool 1, or 4, bool 0, or 6, bool 1, print, none 0",
		"print true||false&&true;":                "mark 5, bool 1, or 6, bool 0, and 6, bool 1, print, none 0",
		"if true{print 1;}print 2;":               "mark 4, bool 1, false 6, mark 2, int 1, print, mark 6, int 2, print, none 0",
		"if true{}":                               "mark 2, bool 1, false 3, none 0",
		"if true{}else{}":                         "mark 3, bool 1, false 4, jump 4, none 0",
		"if true{print 1;}else{print 2;}print 3;": "mark 7, bool 1, false 7, mark 2, int 1, print, jump 10, mark 5, int 2, print, mark 9, int 3, print, none 0",
		"while true{}":                            "mark 2, bool 1, false 4, jump 0, none 0",
		"print 0;while true{print 1;}":            "mark 1, int 0, print, mark 6, bool 1, false 10, mark 4, int 1, print, jump 3, none 0",
	} {
		if got := lines(All(prog(t, "fn main(){"+body+"}"))); got != want {
			t.Errorf("%q: %s, not %s", body, got, want)
		}
	}
	c := All(prog(t, "fn f(a int,b text)text{return b;}fn main(){let x=f(1,\"y\");f(2,x);}fn g()list{}"))
	if got := lines(c); got != "mark 1, load 1 3, ret, none 3, mark 6, int 1, text y, call 0 2, store 0, mark 10, int 2, load 0 3, call 0 2, pop, none 0, none 4" || !slices.Equal(c.Entry, []int{0, 4, 15}) {
		t.Error(got, c.Entry)
	}
}

// P9.4
func TestMayAll(t *testing.T) {
	src := "fn f(a int)int{while a<9||a==12{if a<3&&!(a==1){a=a+1;}else{return a;}}}fn main(){let l=new(3);while true{l[0]=len(l);if l[0]<1{f(2);}print \"x\"+\"\";}}fn g(a list)list{while len(a)<1{if true{return a;}else{while false{}}}}"
	c := All(prog(t, src))
	if b, e := code.Put(c); e != api.OK || len(b) == 0 {
		t.Fatal(e)
	}
	for i, x := range c.Ins {
		if !code.May(x) {
			t.Error(i, x)
		}
		switch x.Op {
		case api.OpJump, api.OpFalse, api.OpAnd, api.OpOr:
			fn := func(at int) int {
				n := 0
				for n+1 < len(c.Entry) && at >= c.Entry[n+1] {
					n++
				}
				return n
			}
			if x.A < 0 || x.A >= len(c.Ins) || fn(x.A) != fn(i) {
				t.Error(i, x)
			}
			if x.Op == api.OpJump && i > x.A && c.Ins[x.A].Op != api.OpMark {
				t.Error("back to a mark alone:", i, x)
			}
		}
	}
}
