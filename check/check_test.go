package check

import (
	"slices"
	"strings"
	"testing"

	"furcate/api"
	"furcate/parse"
)

func tree(t *testing.T, src string) api.Tree {
	t.Helper()
	got, at, e := parse.All(src)
	if e != api.OK {
		t.Fatalf("%q: %d at %d", src, e, at)
	}
	return got
}

func inMain(body string) string { return "fn main(){" + body + "}" }

const helpers = "fn none(){}fn num(a int)int{return a;}fn yes(a bool,b text)bool{return a;}fn row(a list)list{return a;}"

// P4.1: types, slots, functions and sizes of all nodes.
func TestProgram(t *testing.T) {
	src := "fn f(a int,b list)text{let c=b[a];if c<2{let d=\"x\";return d+d;}else{let d=true;}b[0]=len(b);return \"\";}"
	p, at, e := All(tree(t, src+"fn main(){let a=new(2);let b=f(1,a);}"))
	if e != api.OK || at != 0 {
		t.Fatal(at, e)
	}
	want := []struct{ kind, t, slot int }{
		{api.NVar, api.TyInt, 0}, {api.NIndex, api.TyInt, 1}, {api.NLet, 0, 2},
		{api.NVar, api.TyInt, 2}, {api.NInt, api.TyInt, -1}, {api.NBin, api.TyBool, -1},
		{api.NText, api.TyText, -1}, {api.NLet, 0, 3}, {api.NVar, api.TyText, 3}, {api.NVar, api.TyText, 3}, {api.NBin, api.TyText, -1}, {api.NReturn, 0, -1}, {api.NBlock, 0, -1},
		{api.NBool, api.TyBool, -1}, {api.NLet, 0, 4}, {api.NBlock, 0, -1}, {api.NIf, 0, -1},
		{api.NInt, api.TyInt, -1}, {api.NVar, api.TyList, 1}, {api.NLen, api.TyInt, -1}, {api.NPut, 0, 1},
		{api.NText, api.TyText, -1}, {api.NReturn, 0, -1}, {api.NBlock, 0, -1},
		{api.NInt, api.TyInt, -1}, {api.NNew, api.TyList, -1}, {api.NLet, 0, 0},
		{api.NInt, api.TyInt, -1}, {api.NVar, api.TyList, 0}, {api.NCall, api.TyText, -1}, {api.NLet, 0, 1}, {api.NBlock, 0, -1},
	}
	if len(p.Types) != len(want) || len(p.Slots) != len(want) || len(p.Fn) != len(want) || !slices.Equal(p.Size, []int{5, 2}) {
		t.Fatal(p)
	}
	for i, w := range want {
		fn := 0
		if i > 23 {
			fn = 1
		}
		if p.Tree.Nodes[i].Kind != w.kind || p.Types[i] != w.t || p.Slots[i] != w.slot || p.Fn[i] != fn {
			t.Errorf("node %d: kind %d type %d slot %d function %d", i, p.Tree.Nodes[i].Kind, p.Types[i], p.Slots[i], p.Fn[i])
		}
	}
}

// P4.1: what may be.
func TestMay(t *testing.T) {
	for _, body := range []string{
		"", "let a=1;let b=a;a=b;", "let a=\"x\"+\"\";a=a;", "let a=true;a=!a&&(1<2||2<=3);",
		"let a=1==2;a=a!=true;a=\"x\"==\"y\";", "let a=input;a=input;", "let a=new(1);let b=a;b[0]=a[0];a=new(2);",
		"let a=len(\"x\")+len(\"y\"+\"\");", "print 1;print true;print \"\";", "none();",
		"let a=num(1);a=num(a);", "let b=new(0);let a=row(b);row(a);b=row(a);",
		"if true{let a=1;}else{let a=true;}let a=\"\";", "while 1<2{let a=1;}while false{let a=\"\";}",
		"let a=-1*2/3%4-5;", "return;", "let a=new(1);print a[a[0]];", "num(1);yes(true,\"x\");", "main();",
	} {
		if p, at, e := All(tree(t, helpers+inMain(body))); e != api.OK || at != 0 || len(p.Size) != 5 {
			t.Errorf("%q: %d at %d", body, e, at)
		}
	}
}

// P4.1: what is wrong, and at which node; in the order of the source.
func TestWrong(t *testing.T) {
	for body, want := range map[string]struct {
		e    api.Errno
		kind int
		nth  int // of that kind, among main's nodes
	}{
		"print a;":                             {api.ErrUnknown, api.NVar, 0},
		"print a[0];":                          {api.ErrUnknown, api.NIndex, 0},
		"print a[b];":                          {api.ErrUnknown, api.NIndex, 0},
		"a=1;":                                 {api.ErrUnknown, api.NSet, 0},
		"a=b;":                                 {api.ErrUnknown, api.NSet, 0},
		"a[b]=c;":                              {api.ErrUnknown, api.NPut, 0},
		"let a=1;a[b]=c;":                      {api.ErrUnknown, api.NVar, 0},
		"let a=1;a[1]=c;":                      {api.ErrUnknown, api.NVar, 0},
		"let a=a;":                             {api.ErrUnknown, api.NVar, 0},
		"let a=1;let a=b;":                     {api.ErrUnknown, api.NVar, 0},
		"let a=1;let a=2;":                     {api.ErrTwice, api.NLet, 1},
		"let a=1;let a=none();":                {api.ErrType, api.NLet, 1},
		"let a=1;if true{let a=2;}":            {api.ErrTwice, api.NLet, 1},
		"if true{let a=2;}print a;":            {api.ErrUnknown, api.NVar, 0},
		"if true{let a=2;}else{a=1;}":          {api.ErrUnknown, api.NSet, 0},
		"while true{let a=2;}print a;":         {api.ErrUnknown, api.NVar, 0},
		"print a;let a=1;":                     {api.ErrUnknown, api.NVar, 0},
		"let a=none();":                        {api.ErrType, api.NLet, 0},
		"let a=some();":                        {api.ErrUnknown, api.NCall, 0},
		"some(a);":                             {api.ErrUnknown, api.NCall, 0},
		"num(a,1);":                            {api.ErrUnknown, api.NVar, 0},
		"num();":                               {api.ErrArgs, api.NCall, 0},
		"num(true,1);":                         {api.ErrArgs, api.NCall, 0},
		"none(1);":                             {api.ErrArgs, api.NCall, 0},
		"num(true);":                           {api.ErrType, api.NCall, 0},
		"yes(true,1);":                         {api.ErrType, api.NCall, 0},
		"let a=1;a=true;":                      {api.ErrType, api.NSet, 0},
		"let a=1;a=none();":                    {api.ErrType, api.NSet, 0},
		"let a=1;a=new(1);":                    {api.ErrType, api.NSet, 0},
		"let a=true;a=input;":                  {api.ErrType, api.NSet, 0},
		"let a=1;print a[0];":                  {api.ErrType, api.NIndex, 0},
		"let a=new(1);print a[true];":          {api.ErrType, api.NIndex, 0},
		"let a=new(true);":                     {api.ErrType, api.NNew, 0},
		"let a=new(\"\"+1);":                   {api.ErrType, api.NBin, 0},
		"print len(1);":                        {api.ErrType, api.NLen, 0},
		"print len(true);":                     {api.ErrType, api.NLen, 0},
		"print -true;":                         {api.ErrType, api.NNeg, 0},
		"print !1;":                            {api.ErrType, api.NNot, 0},
		"print 1||true;":                       {api.ErrType, api.NBin, 0},
		"print true&&1;":                       {api.ErrType, api.NBin, 0},
		"print true<false;":                    {api.ErrType, api.NBin, 0},
		"print \"\"<=\"\";":                    {api.ErrType, api.NBin, 0},
		"print 1==true;":                       {api.ErrType, api.NBin, 0},
		"let a=new(1);print a==a;":             {api.ErrType, api.NBin, 0},
		"let a=new(1);print a!=a;":             {api.ErrType, api.NBin, 0},
		"print 1+\"\";":                        {api.ErrType, api.NBin, 0},
		"print true+true;":                     {api.ErrType, api.NBin, 0},
		"print \"\"-\"\";":                     {api.ErrType, api.NBin, 0},
		"print \"\"*1;":                        {api.ErrType, api.NBin, 0},
		"print 1/true;":                        {api.ErrType, api.NBin, 0},
		"print true%1;":                        {api.ErrType, api.NBin, 0},
		"print (1+true)+a;":                    {api.ErrType, api.NBin, 0},
		"print true+a;":                        {api.ErrUnknown, api.NVar, 0},
		"let a=1;a[0]=1;":                      {api.ErrType, api.NPut, 0},
		"let a=new(1);a[true]=1;":              {api.ErrType, api.NPut, 0},
		"let a=new(1);a[0]=true;":              {api.ErrType, api.NPut, 0},
		"let a=new(1);print a;":                {api.ErrType, api.NPrint, 0},
		"if 1{print a;}":                       {api.ErrType, api.NIf, 0},
		"while 1{print a;}":                    {api.ErrType, api.NWhile, 0},
		"while a{}":                            {api.ErrUnknown, api.NVar, 0},
		"return 1;":                            {api.ErrArgs, api.NReturn, 0},
		"return a;":                            {api.ErrArgs, api.NReturn, 0},
		"print 1+true;return 1;print a;":       {api.ErrType, api.NBin, 0},
		lets(25):                               {api.ErrBig, api.NLet, 24},
		lets(24) + "let a=1;":                  {api.ErrTwice, api.NLet, 24},
		lets(24) + "let Z=none();":             {api.ErrType, api.NLet, 24},
		lets(23) + "if true{let Y=1;}let Z=1;": {api.ErrBig, api.NLet, 24},
	} {
		got := tree(t, "fn none(){}fn num(a int)int{return a;}fn yes(a bool,b text)bool{return a;}"+inMain(body))
		p, at, e := All(got)
		nth := -1
		for i := got.Fns[2].Body + 1; i <= at; i++ {
			if got.Nodes[i].Kind == want.kind {
				nth++
			}
		}
		if e != want.e || got.Nodes[at].Kind != want.kind || nth != want.nth || len(p.Types) != 0 {
			t.Errorf("%q: %d at node %d of kind %d", body, e, at, got.Nodes[at].Kind)
		}
	}
}

// lets has so many variables, a and so on.
func lets(n int) string {
	s := ""
	for i := range n {
		s += "let " + string(rune('a'+i)) + "=1;"
	}
	return s
}

// P4.1: what is wrong with functions.
func TestFunctions(t *testing.T) {
	for src, want := range map[string]struct {
		at int
		e  api.Errno
	}{
		"":                        {0, api.ErrMain},
		"fn f(){print a;}":        {0, api.ErrMain},
		"fn f(a int,a int){}":     {0, api.ErrMain},
		"fn main(a int){}":        {0, api.ErrMain},
		"fn main()int{return 1;}": {0, api.ErrMain},
		"fn f(){}fn f(){}":        {1, api.ErrTwice},
		"fn main(a int){}fn f(){}fn g(){}fn f(){}":      {3, api.ErrTwice},
		"fn main(){}fn main(){}":                        {1, api.ErrTwice},
		"fn main(){print a;}fn f(){}fn f(){}":           {4, api.ErrTwice},
		"fn f(a int,b int,a bool){print c;}fn main(){}": {2, api.ErrTwice},
		"fn main(){print a;}fn f(a int,a int){}":        {0, api.ErrUnknown},
		"fn f(a int){let a=1;}fn main(){}":              {1, api.ErrTwice},
		"fn f(){return 1;}fn main(){}":                  {1, api.ErrArgs},
		"fn f()int{return;}fn main(){}":                 {0, api.ErrArgs},
		"fn f()int{return true;}fn main(){}":            {1, api.ErrType},
		"fn f()int{return a;}fn main(){}":               {0, api.ErrUnknown},
		"fn f(){let a=1;}fn main(){print a;}":           {3, api.ErrUnknown},
	} {
		if p, at, e := All(tree(t, src)); e != want.e || at != want.at || len(p.Fn) != 0 {
			t.Errorf("%q: %d at %d", src, e, at)
		}
	}
	if _, _, e := All(tree(t, "fn f()int{}fn main(){let a=f();}")); e != api.OK {
		t.Error("a function need not return:", e)
	}
}

// P4.1: Source.
func TestSource(t *testing.T) {
	for src, want := range map[string]struct {
		at int
		e  api.Errno
	}{
		"fn main(){":                          {10, api.ErrSyntax},
		"\n#":                                 {1, api.ErrByte},
		"\n\nfn f(){}":                        {0, api.ErrMain},
		"fn main(){\nprint\na;}":              {3, api.ErrUnknown},
		"fn main(){\nprint\n1\n+true;}":       {3, api.ErrType},
		"fn main(){}\nfn f()\n{}\nfn f()\n{}": {5, api.ErrTwice},
		"fn main(){}":                         {0, api.OK},
	} {
		p, at, e := Source(src)
		if e != want.e || at != want.at || (e == api.OK) != (len(p.Fn) == 1) {
			t.Errorf("%q: %d at %d", src, e, at)
		}
	}
}

func names(l []api.Var) string {
	var out []string
	for _, v := range l {
		out = append(out, v.Name)
	}
	return strings.Join(out, " ")
}

// P4.1, P4.2: Visible.
func TestVisible(t *testing.T) {
	p, _, e := Source("fn f(x text,y list){return;}fn main(){print 0;let a=1;if true{let b=true;print 1;while b{let c=\"\";print 2;}print 3;}else{let d=new(1);print 4;}let e=f2();print 5;}fn f2()bool{}")
	if e != api.OK {
		t.Fatal(e)
	}
	want := []string{"", "a b", "a b c", "a b", "a d", "a e"}
	for at, x := range p.Tree.Nodes {
		got := Visible(p, at)
		slot := -1
		for _, v := range got {
			if v.Slot <= slot || v.Slot >= p.Size[p.Fn[at]] {
				t.Errorf("slots at node %d: %v", at, got)
			}
			slot = v.Slot
		}
		if x.Kind == api.NPrint {
			if n := p.Tree.Nodes[x.L[0]].N; names(got) != want[n] {
				t.Errorf("print %d: %v", n, got)
			}
		}
		if x.Kind == api.NReturn && !slices.Equal(got, []api.Var{{Name: "x", Type: api.TyText, Slot: 0}, {Name: "y", Type: api.TyList, Slot: 1}}) {
			t.Errorf("in f: %v", got)
		}
	}
	last := Visible(p, p.Tree.Fns[1].Body-1)
	if !slices.Equal(last, []api.Var{{Name: "a", Type: api.TyInt, Slot: 0}, {Name: "e", Type: api.TyBool, Slot: 4}}) {
		t.Error(last)
	}
	last[0].Name = "q"
	if Visible(p, p.Tree.Fns[1].Body-1)[0].Name != "a" {
		t.Error("what was told is the caller's own")
	}
	if Visible(p, -1) != nil || Visible(p, 1000) != nil || Visible(api.Prog{}, 0) != nil {
		t.Error("nothing is visible at no node")
	}
}
