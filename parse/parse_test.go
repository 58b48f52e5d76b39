package parse

import (
	"reflect"
	"strings"
	"testing"

	"furcate/api"
)

// P2.1
func TestType(t *testing.T) {
	for w, want := range map[string]int{"int": api.TyInt, "bool": api.TyBool, "text": api.TyText, "list": api.TyList, "": 0, "fn": 0, "Int": 0, "int ": 0, "ints": 0} {
		if Type(w) != want {
			t.Errorf("%q: %d", w, Type(w))
		}
	}
}

func inMain(body string) string { return "fn main(){" + body + "}" }

func node(kind, n int, name string, l ...int) api.Node {
	return api.Node{Kind: kind, Line: 1, N: n, Name: name, L: l}
}

// P2.2, P2.3: kinds, what they have, and their order.
func TestNodes(t *testing.T) {
	for body, want := range map[string][]api.Node{
		"":             {node(api.NBlock, 0, "")},
		"print 1+2;":   {node(api.NInt, 1, ""), node(api.NInt, 2, ""), node(api.NBin, 0, "+", 0, 1), node(api.NPrint, 0, "", 2), node(api.NBlock, 0, "", 3)},
		"let a=input;": {node(api.NInput, 0, ""), node(api.NLet, 0, "a", 0), node(api.NBlock, 0, "", 1)},
		"a=new(3);":    {node(api.NInt, 3, ""), node(api.NNew, 0, "", 0), node(api.NSet, 0, "a", 1), node(api.NBlock, 0, "", 2)},
		"a[0]=\"x\";":  {node(api.NInt, 0, ""), node(api.NText, 0, "x"), node(api.NPut, 0, "a", 0, 1), node(api.NBlock, 0, "", 2)},
		"f();":         {node(api.NCall, 0, "f"), node(api.NDo, 0, "", 0), node(api.NBlock, 0, "", 1)},
		"a=f(1,true);": {node(api.NInt, 1, ""), node(api.NBool, 1, ""), node(api.NCall, 0, "f", 0, 1), node(api.NSet, 0, "a", 2), node(api.NBlock, 0, "", 3)},
		"return;":      {node(api.NReturn, 0, ""), node(api.NBlock, 0, "", 0)},
		"return a;":    {node(api.NVar, 0, "a"), node(api.NReturn, 0, "", 0), node(api.NBlock, 0, "", 1)},
		"if false{}":   {node(api.NBool, 0, ""), node(api.NBlock, 0, ""), node(api.NIf, 0, "", 0, 1), node(api.NBlock, 0, "", 2)},
		"if a{}else{return;}": {node(api.NVar, 0, "a"), node(api.NBlock, 0, ""), node(api.NReturn, 0, ""), node(api.NBlock, 0, "", 2),
			node(api.NIf, 0, "", 0, 1, 3), node(api.NBlock, 0, "", 4)},
		"while a{f();}": {node(api.NVar, 0, "a"), node(api.NCall, 0, "f"), node(api.NDo, 0, "", 1), node(api.NBlock, 0, "", 2),
			node(api.NWhile, 0, "", 0, 3), node(api.NBlock, 0, "", 4)},
		"print len(a[1]);": {node(api.NInt, 1, ""), node(api.NIndex, 0, "a", 0), node(api.NLen, 0, "", 1), node(api.NPrint, 0, "", 2), node(api.NBlock, 0, "", 3)},
		"print -!(a);":     {node(api.NVar, 0, "a"), node(api.NNot, 0, "", 0), node(api.NNeg, 0, "", 1), node(api.NPrint, 0, "", 2), node(api.NBlock, 0, "", 3)},
	} {
		got, at, e := All(inMain(body))
		if e != api.OK || at != 0 || len(got.Nodes) != len(want) {
			t.Errorf("%q: %v %d %d", body, got.Nodes, at, e)
			continue
		}
		for i, n := range got.Nodes {
			if len(n.L) == 0 {
				n.L = nil
			}
			if !reflect.DeepEqual(n, want[i]) {
				t.Errorf("%q: node %d is %v, not %v", body, i, n, want[i])
			}
		}
		if f := got.Fns[0]; len(got.Fns) != 1 || f.Body != len(want)-1 || f.Name != "main" || f.Line != 1 || len(f.Params) != 0 || f.Ret != 0 {
			t.Errorf("%q: %v", body, got.Fns)
		}
	}
}

// shown is an expression with all its parentheses.
func shown(t api.Tree, at int) string {
	n := t.Nodes[at]
	switch n.Kind {
	case api.NBin:
		return "(" + shown(t, n.L[0]) + n.Name + shown(t, n.L[1]) + ")"
	case api.NNeg:
		return "(-" + shown(t, n.L[0]) + ")"
	case api.NNot:
		return "(!" + shown(t, n.L[0]) + ")"
	}
	return n.Name
}

// P2.2: which sign holds what.
func TestLevels(t *testing.T) {
	for src, want := range map[string]string{
		"a||b&&c||d":     "((a||(b&&c))||d)",
		"a-b-c+d":        "(((a-b)-c)+d)",
		"a-(b-c)":        "(a-(b-c))",
		"a*b/c%d":        "(((a*b)/c)%d)",
		"a+b*c<d-e":      "((a+(b*c))<(d-e))",
		"a<=b&&c==d":     "((a<=b)&&(c==d))",
		"a!=b||!c":       "((a!=b)||(!c))",
		"-a*b":           "((-a)*b)",
		"--a-!-b":        "((-(-a))-(!(-b)))",
		"(a||b)&&((c))":  "((a||b)&&c)",
		"a<(b<c)":        "(a<(b<c))",
		"(a==b)==(c!=d)": "((a==b)==(c!=d))",
	} {
		got, at, e := All(inMain("return " + src + ";"))
		if e != api.OK {
			t.Errorf("%q: %d at %d", src, e, at)
			continue
		}
		r := got.Nodes[len(got.Nodes)-2]
		if s := shown(got, r.L[0]); s != want {
			t.Errorf("%q: %s", src, s)
		}
	}
}

// P2.3: functions, params and lines.
func TestFunctions(t *testing.T) {
	src := "fn a(x int,y list) bool\n{\nreturn\n(x\n+1)\n*2;}\n fn b(z text){}\nfn main(){let\nq=\nf(\n1);if\nq{}\nelse\n{}}"
	got, at, e := All(src)
	if e != api.OK {
		t.Fatal(at, e)
	}
	want := []api.Func{
		{Name: "a", Line: 1, Params: []api.Param{{Name: "x", Type: api.TyInt}, {Name: "y", Type: api.TyList}}, Ret: api.TyBool, Body: 6},
		{Name: "b", Line: 7, Params: []api.Param{{Name: "z", Type: api.TyText}}, Body: 7},
		{Name: "main", Line: 8, Body: 15},
	}
	if !reflect.DeepEqual(got.Fns, want) {
		t.Errorf("%v", got.Fns)
	}
	lines := []int{4, 5, 4, 6, 4, 3, 2, 7, 11, 10, 8, 12, 12, 14, 11, 8}
	for i, n := range got.Nodes {
		if i < len(lines) && n.Line != lines[i] {
			t.Errorf("node %d of kind %d is at line %d, not %d", i, n.Kind, n.Line, lines[i])
		}
	}
	if got, _, e := All(""); e != api.OK || len(got.Fns) != 0 || len(got.Nodes) != 0 {
		t.Error("nothing is a source without functions")
	}
}

// P2.2, P2.3: what may not stand there.
func TestSyntax(t *testing.T) {
	for src, want := range map[string]int{
		"x":                          0,
		"fn":                         2,
		"fn fn":                      3,
		"fn \"main\"(){}":            3,
		"fn main)":                   7,
		"fn main(){":                 10,
		"fn main(){}}":               11,
		"fn main(){}fn":              13,
		"fn f(,)":                    5,
		"fn f(a)":                    6,
		"fn f(a int,)":               11,
		"fn f(a int b int)":          11,
		"fn f(a none)":               7,
		"fn f(){};":                  8,
		"fn f() void{}":              7,
		"fn f()int int{}":            10,
		inMain(";"):                  10,
		inMain("1;"):                 10,
		inMain("let 1=2;"):           14,
		inMain("let a 2;"):           16,
		inMain("let a=;"):            16,
		inMain("let a=1"):            17,
		inMain("let if=1;"):          14,
		inMain("a;"):                 11,
		inMain("a+1;"):               11,
		inMain("a==1;"):              11,
		inMain("a[]=1;"):             12,
		inMain("a[1];"):              14,
		inMain("a[1]=input;"):        15,
		inMain("a[1]=new(1);"):       15,
		inMain("a[1]=f(1);"):         16,
		inMain("a=input+1;"):         17,
		inMain("a=new(1)+1;"):        18,
		inMain("a=new 1;"):           16,
		inMain("a=new();"):           16,
		inMain("a=f(1)+1;"):          16,
		inMain("a=1+f(1);"):          15,
		inMain("a=(f(1));"):          14,
		inMain("a=f(1)"):             16,
		inMain("f(1;"):               13,
		inMain("f(,);"):              12,
		inMain("f(1,);"):             14,
		inMain("f(input);"):          12,
		inMain("f(g(1));"):           13,
		inMain("f(1)"):               14,
		inMain("print;"):             15,
		inMain("print f(1);"):        17,
		inMain("print input;"):       16,
		inMain("print 1<2<3;"):       19,
		inMain("print 1==2!=3;"):     20,
		inMain("print 1 2;"):         18,
		inMain("print a b;"):         18,
		inMain("print (1;"):          18,
		inMain("print ();"):          17,
		inMain("print +1;"):          16,
		inMain("print len 1;"):       20,
		inMain("print len;"):         19,
		inMain("print a[1;"):         19,
		inMain("print 1=2;"):         17,
		inMain("if a b;"):            15,
		inMain("if{}"):               12,
		inMain("if a{}else if b{}"):  21,
		inMain("else{}"):             10,
		inMain("while{}"):            15,
		inMain("while a;"):           17,
		inMain("return 1 2;"):        19,
		inMain("return"):             16,
		inMain("{}"):                 10,
		inMain("print \"a\" \"(\";"): 20,
		inMain("a\"=\"1;"):           11,
		inMain("f\"(\"1);"):          11,
	} {
		got, at, e := All(src)
		if e != api.ErrSyntax || at != want || len(got.Nodes)+len(got.Fns) != 0 {
			t.Errorf("%q: %v %d at %d, not %d", src, got, e, at, want)
		}
	}
}

// P2.3: lex's errors are told ahead of all.
func TestLex(t *testing.T) {
	for src, want := range map[string]struct {
		at int
		e  api.Errno
	}{"} #": {2, api.ErrByte}, "fn \"": {3, api.ErrText}, strings.Repeat(" ", 601): {0, api.ErrBig}, "} abcdefghi": {2, api.ErrName}} {
		if got, at, e := All(src); at != want.at || e != want.e || len(got.Fns) != 0 {
			t.Errorf("%q: %d %d", src, at, e)
		}
	}
}

// P2.3: how deep within each other.
func TestDeep(t *testing.T) {
	r := strings.Repeat
	for _, src := range []string{
		r("if a{", 15) + r("}", 15),
		"a=" + r("(", 15) + "1" + r(")", 15) + ";",
		"a=" + r("-", 15) + "1;",
		"a=" + r("a[", 15) + "1" + r("]", 15) + ";",
		"a=" + r("len(", 15) + "a" + r(")", 15) + ";",
		"a=" + r("(-", 7) + "(1" + r(")", 8) + ";",
		"a[" + r("(", 14) + "1" + r(")", 14) + "]=1;",
		"a=f(" + r("(", 15) + "1" + r(")", 15) + ");",
		"a=new(" + r("(", 15) + "1" + r(")", 15) + ");",
		"a=" + r("(1)+", 20) + "1;",
		"a=" + r("-1-", 20) + "1;",
		r("if a{}else{}", 20),
		r("if a{", 15) + "b=f(1);a=new(2);" + r("}", 15),
	} {
		if _, at, e := All(inMain(src)); e != api.OK {
			t.Errorf("%q: %d at %d", src, e, at)
		}
	}
	for src, want := range map[string]struct {
		at int
		e  api.Errno
	}{
		r("if a{", 16) + r("}", 16):                        {79, api.ErrDeep},
		"a=" + r("(", 16) + "1" + r(")", 16) + ";":         {17, api.ErrDeep},
		"a=" + r("-", 16) + "1;":                           {17, api.ErrDeep},
		"a=" + r("!", 17) + "1;":                           {17, api.ErrDeep},
		"a=" + r("a[", 16) + "1" + r("]", 16) + ";":        {33, api.ErrDeep},
		"a=" + r("len(", 16) + "a" + r(")", 16) + ";":      {65, api.ErrDeep},
		"a=" + r("(-", 7) + "(a[1])" + r(")", 7) + ";":     {18, api.ErrDeep},
		"a=" + r("(-", 7) + "-(1)" + r(")", 7) + ";":       {17, api.ErrDeep},
		"a[" + r("(", 15) + "1" + r(")", 15) + "]=1;":      {16, api.ErrDeep},
		r("if a{", 15) + "a[0]=1;" + r("}", 15):            {76, api.ErrDeep},
		r("if a{", 14) + "if a{}else{if a{}}" + r("}", 14): {85, api.ErrDeep},
		"a=" + r("(", 15) + "len(1":                        {20, api.ErrDeep},
		"a=" + r("(", 15) + "len 1":                        {21, api.ErrSyntax},
		"a=" + r("(", 16) + "#":                            {18, api.ErrByte},
		"a=;" + r("(", 16):                                 {2, api.ErrSyntax},
	} {
		if _, at, e := All(inMain(src)); e != want.e || at != 10+want.at {
			t.Errorf("%q: %d at %d, not %d", src, e, at-10, want.at)
		}
	}
}

// P2.3: how many there may be.
func TestBig(t *testing.T) {
	r := strings.Repeat
	sum := func(n int) string { return inMain("print 1" + r("+1", n) + ";") }
	for src, want := range map[string]api.Errno{
		sum(148): api.OK, // 2*148+1 nodes, print, block: 299
		inMain("f();print 1" + r("+1", 147) + ";"): api.OK,     // 299
		inMain("print -1" + r("+1", 148) + ";"):    api.OK,     // 300
		sum(149):                                   api.ErrBig, // 301
		r("fn f(){}", 6):                           api.OK,
		r("fn f(){}", 7):                           api.ErrBig,
		r("fn f(){}", 7) + "}":                     api.ErrSyntax,
		"fn f(a int,b int,c int){}":                api.OK,
		"fn f(a int,b int,c int,d int){}":          api.ErrBig,
		"fn f(a int,b int,c int,d int){} }":        api.ErrSyntax,
		"fn f(a int,b int,c int,d int){-":          api.ErrSyntax,
		inMain("f(1,2,3,4,5);"):                    api.OK,
	} {
		got, at, e := All(src)
		if e != want || e == api.ErrBig && at != 0 || e != api.OK && len(got.Nodes)+len(got.Fns) != 0 {
			t.Errorf("%q: %d at %d", src, e, at)
		}
	}
}

// P2.4, and R1: of whatever tokens.
func TestAnyTokens(t *testing.T) {
	x := uint32(7)
	pick := func(n int) int { x = x*1664525 + 1013904223; return int(x>>16) % n }
	some := strings.Fields("fn main ( ) { } let a = 1 ; print if else while return input new len true [ ] , + - ! < && \"x\" int f ( ) { } ; ; a")
	starts := []string{"", "fn main(){", "fn main(){let a=", "fn main(){if a<", "fn main(){f("}
	for range 30000 {
		src := starts[pick(len(starts))]
		for range pick(9) {
			src += some[pick(len(some))] + " "
		}
		got, at, e := All(src)
		if e != api.OK {
			if at < 0 || at > len(src) || len(got.Nodes)+len(got.Fns) != 0 {
				t.Fatal(src, got, at, e)
			}
			continue
		}
		below := make([]int, len(got.Nodes))
		for i, n := range got.Nodes {
			for _, l := range n.L {
				if l >= i {
					t.Fatal(src, got)
				}
				below[l]++
			}
		}
		for _, f := range got.Fns {
			below[f.Body]++
		}
		for _, n := range below {
			if n != 1 {
				t.Fatal(src, got, below)
			}
		}
	}
}
