package show

import (
	"reflect"
	"strings"
	"testing"

	"furcate/api"
	"furcate/parse"
)

func tree(t *testing.T, src string) api.Tree {
	t.Helper()
	got, at, e := parse.All(src)
	if e != api.OK {
		t.Fatalf("%q: %d at %d", src, e, at)
	}
	return got
}

// P3.1
func TestLevel(t *testing.T) {
	for i, signs := range []string{"||", "&&", "< <= == !=", "+ -", "* / %"} {
		for _, s := range strings.Fields(signs) {
			if got := Level(api.Node{Kind: api.NBin, Name: s}); got != i {
				t.Errorf("%s: %d", s, got)
			}
		}
	}
	for k := api.NInt; k <= api.NCall; k++ {
		want := 6
		switch k {
		case api.NBin:
			continue
		case api.NNeg, api.NNot:
			want = 5
		}
		if got := Level(api.Node{Kind: k, Name: "+"}); got != want {
			t.Errorf("%d: %d", k, got)
		}
	}
}

// P3.1
func TestExpr(t *testing.T) {
	for src, want := range map[string]string{
		"0012":                     "12",
		"9223372036854775807":      "9223372036854775807",
		"true":                     "true",
		"false":                    "false",
		"\" a+b \"":                "\" a+b \"",
		"\"\"":                     "\"\"",
		"x_1":                      "x_1",
		"a [ 1 + 2 ]":              "a[1+2]",
		"a[(b||c)]":                "a[b||c]",
		"len ( ( a ) )":            "len(a)",
		"- - 1":                    "--1",
		"!(a)":                     "!a",
		"!(!a)":                    "!!a",
		"-(a*b)":                   "-(a*b)",
		"(-a)*b":                   "-a*b",
		"a*(-b)":                   "a*-b",
		"!(a==b)":                  "!(a==b)",
		"(a+b)+c":                  "a+b+c",
		"a+(b+c)":                  "a+(b+c)",
		"a-(b-c)":                  "a-(b-c)",
		"a-(-b)":                   "a--b",
		"(a*b)+(c*d)":              "a*b+c*d",
		"(a+b)*(c+d)":              "(a+b)*(c+d)",
		"a*(b/c)%d":                "a*(b/c)%d",
		"(a<b)==(c<=d)":            "(a<b)==(c<=d)",
		"(a+b)<(c-d)":              "a+b<c-d",
		"(a!=b)==c":                "(a!=b)==c",
		"a==(b==c)":                "a==(b==c)",
		"(a||b)&&c":                "(a||b)&&c",
		"a||(b&&c)":                "a||b&&c",
		"a||(b||c)":                "a||(b||c)",
		"(a||b)||c":                "a||b||c",
		"a&&(b&&(c))":              "a&&(b&&c)",
		"(a<b)&&(!(c))":            "a<b&&!c",
		"(a<b)+c":                  "(a<b)+c",
		"len((a||b))":              "len(a||b)",
		"new((a||b))":              "new(a||b)",
		"input":                    "input",
		"new ( 1 + 2 )":            "new(1+2)",
		"f ( )":                    "f()",
		"f ( (a) , (b || c) , -1)": "f(a,b||c,-1)",
	} {
		got := tree(t, "fn main(){let q="+src+";}")
		at := got.Nodes[len(got.Nodes)-2].L[0]
		if s := Expr(got, at); s != want {
			t.Errorf("%q: %q, not %q", src, s, want)
		}
	}
}

// P3.2
func TestText(t *testing.T) {
	for src, want := range map[string]string{
		"":                               "",
		"fn main() { print (1+2) * 3; }": "fn main(){\nprint (1+2)*3;\n}\n",
		"fn f(a int , b text)list{}":     "fn f(a int,b text)list{\n}\n",
		"fn f ( a bool ) bool { return ( a ) ; }":                     "fn f(a bool)bool{\nreturn a;\n}\n",
		"fn a(){}// b\nfn b(x list)text{}":                            "fn a(){\n}\nfn b(x list)text{\n}\n",
		"fn m(){let a = input;a = new(2);a[0+1] = (3);f( );return ;}": "fn m(){\nlet a=input;\na=new(2);\na[0+1]=3;\nf();\nreturn;\n}\n",
		"fn m(){if (a){b=1;}}":                                        "fn m(){\nif a{\nb=1;\n}\n}\n",
		"fn m(){if a<b{}else{while !c{f(1,2);}}}":                     "fn m(){\nif a<b{\n}\nelse{\nwhile !c{\nf(1,2);\n}\n}\n}\n",
		"fn m()int{if a{return 1;}return -1;}":                        "fn m()int{\nif a{\nreturn 1;\n}\nreturn -1;\n}\n",
		"fn m(){let a=f(\"x\");a=b;print a;}":                         "fn m(){\nlet a=f(\"x\");\na=b;\nprint a;\n}\n",
	} {
		if got := Text(tree(t, src)); got != want {
			t.Errorf("%q: %q, not %q", src, got, want)
		}
	}
}

// P3.3
func TestSameTree(t *testing.T) {
	x := uint32(3)
	pick := func(n int) int { x = x*1664525 + 1013904223; return int(x>>16) % n }
	var expr func(deep int) string
	expr = func(deep int) string {
		if deep == 0 {
			return []string{"a", "1", "\"t\"", "true", "b", "false"}[pick(6)]
		}
		switch pick(6) {
		case 0:
			return "(" + expr(deep-1) + ")"
		case 1:
			return []string{"-", "!"}[pick(2)] + expr(deep-1)
		case 2:
			return "a[" + expr(deep-1) + "]"
		}
		sign := strings.Fields("|| && < <= == != + - * / %")[pick(11)]
		return "(" + expr(deep-1) + ")" + sign + "\n(" + expr(pick(deep)) + ")"
	}
	for range 3000 {
		src := "fn f(a int)int{while " + expr(2) + "{if " + expr(1) + "{f(" + expr(1) + ");}else{return " + expr(3) + ";}}}"
		if len(src) > api.MaxSource {
			continue
		}
		first := tree(t, src)
		again := Text(first)
		second := tree(t, again)
		if Text(second) != again {
			t.Fatalf("%q: %q", again, Text(second))
		}
		for _, one := range []api.Tree{first, second} {
			for i := range one.Nodes {
				one.Nodes[i].Line = 0
			}
			one.Fns[0].Line = 0
		}
		if !reflect.DeepEqual(first, second) {
			t.Fatalf("%q: %q", src, again)
		}
	}
}
