package source

import (
	"reflect"
	"slices"
	"strings"
	"testing"

	"furcate/api"
	"furcate/check"
	"furcate/value"
)

func prog(t *testing.T, src string) api.Prog {
	t.Helper()
	p, at, e := check.Source(src)
	if e != api.OK {
		t.Fatalf("%q: %d at %d", src, e, at)
	}
	return p
}

func inMain(body string) string { return "fn main(){" + body + "}" }

// own is a state that shares nothing.
func own(s api.State) api.State {
	out := api.State{In: s.In, Status: s.Status, Trap: s.Trap, Time: s.Time}
	for _, f := range s.Frames {
		out.Frames = append(out.Frames, api.Frame{Fn: f.Fn, Slots: append([]api.Value{}, f.Slots...), Path: append([]api.Place{}, f.Path...)})
	}
	for _, l := range s.Heap {
		out.Heap = append(out.Heap, append([]int{}, l...))
	}
	for _, text := range s.Out {
		out.Out = append(out.Out, text)
	}
	return out
}

// line is the line at which the top is, or 0.
func line(p api.Prog, s api.State) int {
	if at := Next(p, s); at >= 0 {
		return p.Tree.Nodes[at].Line
	}
	return 0
}

// P7.1
func TestStart(t *testing.T) {
	p := prog(t, "fn f(){}fn main(){let a=1;let b=2;}")
	main := p.Tree.Fns[1].Body
	want := api.State{Frames: []api.Frame{{Fn: 1, Slots: make([]api.Value, 2), Path: []api.Place{{Block: main}}}}}
	if got := Start(p); !reflect.DeepEqual(got, want) {
		t.Errorf("%+v", got)
	}
	if Next(p, Start(p)) != p.Tree.Nodes[main].L[0] {
		t.Error("the first statement is next")
	}
	p = prog(t, inMain(""))
	if got := Start(p); got.Status != api.Ends || len(got.Frames) != 0 || got.Time != 0 || Next(p, got) != -1 {
		t.Errorf("%+v", got)
	}
}

// P7.1
func TestCells(t *testing.T) {
	if Cells(nil) != 0 || Cells([][]int{{}}) != 1 || Cells([][]int{{1, 2}, nil, {3}}) != 6 {
		t.Error("lists, and numbers in them")
	}
}

// P7.1
func TestSet(t *testing.T) {
	p := prog(t, inMain("let a=1;let b=true;let l=new(1);let s=\"\";if b{let c=2;}print a;"))
	s := Run(p, nil, 4)
	for _, c := range []struct {
		name string
		v    api.Value
		slot int
	}{
		{"a", value.Int(5), 0}, {"b", value.Bool(false), 1}, {"s", value.Text("new"), 3},
		{"a", value.Bool(true), -1}, {"a", api.Value{}, -1}, {"b", api.Value{Type: api.TyBool, N: 2}, -1}, {"l", api.Value{Type: api.TyList, N: 1}, -1},
		{"l", value.Int(1), -1}, {"c", value.Int(1), -1}, {"q", value.Int(1), -1}, {"", value.Int(1), -1}, {"s", value.Text(strings.Repeat("x", 41)), -1},
	} {
		before := own(s)
		got, ok := Set(p, s, c.name, c.v)
		if !reflect.DeepEqual(s, before) || ok != (c.slot >= 0) {
			t.Errorf("%v: %v", c, ok)
		}
		want := own(s)
		if ok {
			want.Frames[0].Slots[c.slot] = c.v
		}
		if !reflect.DeepEqual(got, want) {
			t.Errorf("%v: %+v", c, got)
		}
		got.Frames[0].Slots[0] = value.Int(99)
		got.Heap[0][0] = 99
		if !reflect.DeepEqual(s, before) {
			t.Error("a copy goes its own way")
		}
	}
	if _, ok := Set(p, Start(p), "a", value.Int(1)); ok {
		t.Error("a is not visible yet")
	}
	if _, ok := Set(p, Run(p, nil, 99), "a", value.Int(1)); ok {
		t.Error("it ended")
	}
	p = prog(t, inMain("let a=0;a=1/a;"))
	if _, ok := Set(p, Run(p, nil, 2), "a", value.Int(1)); ok {
		t.Error("it fell")
	}
	p = prog(t, inMain("let a=0;a=input;"))
	waits := Run(p, nil, 2)
	if got, ok := Set(p, waits, "a", value.Int(3)); !ok || got.Status != api.Waits || got.Frames[0].Slots[0] != value.Int(3) {
		t.Error("who waits has variables")
	}
}

// P7.2, P7.3: what is printed, how it stands, and when.
func TestRuns(t *testing.T) {
	deep := "fn f(n int)int{if n<1{return 0;}let r=f(n-1);return r+1;}"
	for src, want := range map[string]struct {
		inputs       []int
		out          string
		status, trap int
		time, in     int
	}{
		inMain("print 1;print true;print \"a b\";print -5;"):                {nil, "1,true,a b,-5", api.Ends, 0, 4, 0},
		inMain("let a=1;a=a+1;print a;"):                                    {nil, "2", api.Ends, 0, 3, 0},
		inMain("let a=0;while a<3{print a;a=a+1;}print 9;"):                 {nil, "0,1,2,9", api.Ends, 0, 12, 0},
		inMain("let a=0;while a<0{}if a<1{}else{print 1;}if a<1{print 2;}"): {nil, "2", api.Ends, 0, 5, 0},
		inMain("if false{print 1;}else{print 2;}if true{}print 3;"):         {nil, "2,3", api.Ends, 0, 4, 0},
		inMain("let a=input;print a;a=input;print a;"):                      {[]int{4, -5, 6}, "4,-5", api.Ends, 0, 4, 2},
		inMain("let a=input;print a;a=input;print a;") + " ":                {[]int{4}, "4", api.Waits, 0, 2, 1},
		inMain("let l=new(2);l[1]=7;let m=l;m[0]=3;print l[0]*10+l[1];"):    {nil, "37", api.Ends, 0, 5, 0},
		inMain("let l=new(2);l[2]=7;"):                                      {nil, "", api.Falls, api.TrapIndex, 2, 0},
		inMain("let l=new(2);l[-1]=7;"):                                     {nil, "", api.Falls, api.TrapIndex, 2, 0},
		inMain("let l=new(2);l[2]=1/0;"):                                    {nil, "", api.Falls, api.TrapDiv, 2, 0},
		inMain("let l=new(0);print l[0];"):                                  {nil, "", api.Falls, api.TrapIndex, 2, 0},
		inMain("let l=new(16);l=new(17);"):                                  {nil, "", api.Falls, api.TrapSize, 2, 0},
		inMain("let l=new(-1);"):                                            {nil, "", api.Falls, api.TrapSize, 1, 0},
		inMain("let l=new(9223372036854775807);"):                           {nil, "", api.Falls, api.TrapSize, 1, 0},
		inMain("let l=new(1/0);"):                                           {nil, "", api.Falls, api.TrapDiv, 1, 0},
		inMain("let l=new(16);l=new(16);l=new(5);print 1;l=new(0);"):        {nil, "1", api.Falls, api.TrapCells, 5, 0},
		inMain("let l=new(16);l=new(16);l=new(6);"):                         {nil, "", api.Falls, api.TrapCells, 3, 0},
		inMain("let l=new(16);l=new(16);l=new(17);"):                        {nil, "", api.Falls, api.TrapSize, 3, 0},
		inMain("print 1;print 1/0;print 2;"):                                {nil, "1", api.Falls, api.TrapDiv, 2, 0},
		inMain("if 1/0==1{print 1;}"):                                       {nil, "", api.Falls, api.TrapDiv, 1, 0},
		inMain("while 1%0==1{print 1;}"):                                    {nil, "", api.Falls, api.TrapDiv, 1, 0},
		inMain("let s=\"0123456789\";s=s+s;s=s+s;print s;s=s+\"x\";"):       {nil, strings.Repeat("0123456789", 4), api.Falls, api.TrapLong, 5, 0},
		inMain("let a=0;while true{print a;a=a+1;}"):                        {nil, "0,1,2,3,4,5,6,7,8,9,10,11,12,13,14,15,16,17,18,19,20,21,22,23", api.Falls, api.TrapOut, 75, 0},
		inMain(strings.Repeat("print \"\";", 24) + "print 1/0;"):            {nil, strings.Repeat(",", 23), api.Falls, api.TrapDiv, 25, 0},
		deep + inMain("let a=f(6);print a;"):                                {nil, "6", api.Ends, 0, 22, 0},
		deep + inMain("let a=f(7);print a;"):                                {nil, "", api.Falls, api.TrapFrames, 15, 0},
		deep + inMain("f(1/0);"):                                            {nil, "", api.Falls, api.TrapDiv, 1, 0},
		"fn f(){main();}" + inMain("f();"):                                  {nil, "", api.Falls, api.TrapFrames, 8, 0},
		"fn f(a int){f(1/(a-7));}" + inMain("f(7);"):                        {nil, "", api.Falls, api.TrapDiv, 2, 0},
		"fn f(){}" + inMain("f();print 1;f();"):                             {nil, "1", api.Ends, 0, 3, 0},
		"fn f()int{}fn g()text{}fn h()bool{}fn l()list{}" + inMain("let a=f();let b=g();let c=h();let d=l();print a;print b;print c;print len(d);"): {nil, "0,,false,0", api.Ends, 0, 8, 0},
		"fn f(a int)int{while true{if a<3{return a;}a=a-1;}}" + inMain("let a=f(4);print a;f(0);"):                                                  {nil, "2", api.Ends, 0, 15, 0},
		"fn f(a int,b text,c bool){print a;print b;print c;}" + inMain("f(1+1,\"x\"+\"y\",!true);"):                                                 {nil, "2,xy,false", api.Ends, 0, 4, 0},
		"fn f(l list){l[0]=9;l=new(1);l[0]=1;}" + inMain("let l=new(1);f(l);print l[0];"):                                                           {nil, "9", api.Ends, 0, 6, 0},
		"fn f()int{return 5;}" + inMain("let a=1;a=f();print a;return;print 2;"):                                                                    {nil, "5", api.Ends, 0, 5, 0},
		"fn f(){if true{while true{return;}}}" + inMain("f();print 1;"):                                                                             {nil, "1", api.Ends, 0, 5, 0},
	} {
		p := prog(t, src)
		got := Run(p, want.inputs, 300)
		if strings.Join(got.Out, ",") != want.out || got.Status != want.status || got.Trap != want.trap || got.Time != want.time || got.In != want.in {
			t.Errorf("%q: %+v", src, got)
		}
		if again := Step(p, got, want.inputs); !reflect.DeepEqual(again, got) {
			t.Errorf("%q: a step further: %+v", src, again)
		}
	}
}

// P7.2: a trap leaves all but the status, the trap and the time as it was.
func TestTrapKeepsAll(t *testing.T) {
	p := prog(t, "fn f(a int){let l=new(1);l[0]=1/a;}fn main(){let x=1;f(0);}")
	before := Run(p, nil, 3)
	after := Step(p, before, nil)
	want := own(before)
	want.Status, want.Trap, want.Time = api.Falls, api.TrapDiv, 4
	if !reflect.DeepEqual(after, want) || Next(p, after) != -1 {
		t.Errorf("%+v", after)
	}
	after.Heap[0][0], after.Frames[0].Slots[0].N = 99, 99
	if before.Heap[0][0] != 0 || before.Frames[0].Slots[0].N != 1 {
		t.Error("what falls shares with what it was")
	}
}

// P7.2, P7.4: who waits goes on with one input more.
func TestWaits(t *testing.T) {
	p := prog(t, inMain("let a=input;let b=input;print a-b;"))
	inputs := []int{9}
	s := Run(p, inputs, 1)
	w := Step(p, s, inputs)
	want := own(s)
	want.Status = api.Waits
	if !reflect.DeepEqual(w, want) || Next(p, w) != Next(p, s) || w.Time != 1 {
		t.Errorf("%+v", w)
	}
	other := Step(p, s, inputs)
	other.Frames[0].Slots[0].N = 99
	if s.Frames[0].Slots[0].N != 9 {
		t.Error("what waits shares with what it was")
	}
	s = Step(p, w, append(inputs, 2))
	if s.Status != api.Runs || s.In != 2 || s.Time != 2 {
		t.Errorf("%+v", s)
	}
	if s = Step(p, s, inputs); s.Status != api.Ends || s.Out[0] != "7" {
		t.Errorf("%+v", s)
	}
	p = prog(t, "fn main(){let a=0;while a<1{a=input;}a=1/(a-1);}")
	s = Run(p, nil, 9)
	if s.Status != api.Waits || s.Time != 2 {
		t.Errorf("%+v", s)
	}
}

// P7.2: where it is, step by step.
func TestLines(t *testing.T) {
	p := prog(t, "fn f(n int)int{\nif n<1{\nreturn n;\n}\nn=n-1;\nlet r=f(n);\n}\nfn main(){\nlet i=0;\nwhile i<1{\ni=i+1;\n}\nlet q=f(1);\nprint q;\n}")
	want := []int{9, 10, 11, 10, 13, 2, 5, 6, 2, 3, 14, 0}
	s := Start(p)
	for i, w := range want {
		if got := line(p, s); got != w || s.Time != i {
			t.Errorf("at %d: line %d, not %d", i, got, w)
		}
		if i == 6 && (len(s.Frames) != 2 || s.Frames[1].Fn != 0 || !reflect.DeepEqual(s.Frames[1].Slots, []api.Value{value.Int(1), {}})) {
			t.Errorf("%+v", s)
		}
		s = Step(p, s, nil)
	}
	if s.Status != api.Ends || s.Out[0] != "0" {
		t.Errorf("%+v", s)
	}
}

// P7.2: blocks within each other are places behind each other.
func TestPath(t *testing.T) {
	p := prog(t, inMain("print 0;if true{while true{print 1;}}"))
	s := Run(p, nil, 3)
	main := p.Tree.Fns[0].Body
	choice := p.Tree.Nodes[p.Tree.Nodes[main].L[1]].L[1]
	loop := p.Tree.Nodes[p.Tree.Nodes[choice].L[0]].L[1]
	if want := []api.Place{{Block: main, At: 2}, {Block: choice}, {Block: loop}}; !slices.Equal(s.Frames[0].Path, want) {
		t.Errorf("%+v", s.Frames[0].Path)
	}
	s = Step(p, s, nil)
	if want := []api.Place{{Block: main, At: 2}, {Block: choice}}; !slices.Equal(s.Frames[0].Path, want) {
		t.Errorf("%+v", s.Frames[0].Path)
	}
}

// P7.3
func TestRun(t *testing.T) {
	p := prog(t, inMain("print 1;print 2;"))
	s := Run(p, nil, 1)
	if s.Time != 1 || !slices.Equal(s.Out, []string{"1"}) || Next(p, s) != p.Tree.Nodes[p.Tree.Fns[0].Body].L[1] {
		t.Errorf("%+v", s)
	}
	if s := Run(p, nil, 0); s.Time != 0 {
		t.Error("no step")
	}
	if s := Run(p, nil, -3); s.Time != 0 {
		t.Error("fewer than none")
	}
	if s := Run(p, nil, 1<<62); s.Time != 2 || s.Status != api.Ends {
		t.Error("it ends")
	}
}

// P7.4, R7: what was printed stays, lists are never fewer, and no state is changed by a step from it.
func TestOnward(t *testing.T) {
	p := prog(t, "fn f(l list,n int){l[n]=n;let m=new(n);if 0<n{f(m,n-1);}print l[n];}fn main(){let l=new(4);f(l,3);print l[3];}")
	s := Start(p)
	for s.Status == api.Runs {
		before := own(s)
		next := Step(p, s, nil)
		if !reflect.DeepEqual(s, before) {
			t.Fatalf("changed: %+v", s)
		}
		if len(next.Heap) < len(s.Heap) || len(next.Out) < len(s.Out) || !slices.Equal(next.Out[:len(s.Out)], s.Out) {
			t.Fatalf("%+v", next)
		}
		// Nor by what is done of the state that was told.
		for i := range next.Frames {
			next.Frames[i].Fn = 9
			next.Frames[i].Slots[0].N = 99
			next.Frames[i].Path[0].At = 99
		}
		for i := range next.Heap {
			next.Heap[i] = append(next.Heap[i], 99)
			next.Heap[i][0] = 99
		}
		for i := range next.Out {
			next.Out[i] = "none"
		}
		next, _ = Set(p, s, "q", value.Int(1))
		for i := range next.Heap {
			next.Heap[i] = nil
		}
		if !reflect.DeepEqual(s, before) {
			t.Fatalf("changed: %+v", s)
		}
		s = Step(p, s, nil)
	}
	if s.Status != api.Ends || !slices.Equal(s.Out, []string{"0", "1", "2", "3", "3"}) || len(s.Heap) != 5 {
		t.Errorf("%+v", s)
	}
}
