package session

import (
	"bytes"
	"fmt"
	"reflect"
	"slices"
	"strings"
	"testing"

	"furcate/api"
	"furcate/branch"
	"furcate/check"
	"furcate/diff"
	"furcate/samples"
	"furcate/save"
	"furcate/trace"
	"furcate/tree"
	"furcate/value"
	"furcate/view"
	"furcate/words"
)

func begin(t *testing.T, src string) *Session {
	t.Helper()
	s, at, e := New(src)
	if e != api.OK || at != 0 {
		t.Fatalf("%q: %d at %d", src, e, at)
	}
	return s
}

// talk holds each answer (a | between its lines) against what is told of each line.
func talk(t *testing.T, src string, lines ...string) {
	t.Helper()
	s := begin(t, src)
	for _, x := range lines {
		ask, want, _ := strings.Cut(x, " > ")
		before := fmt.Sprint(s.Wood())
		if got := strings.ReplaceAll(s.Do(ask), "\n", "|"); got != want {
			t.Errorf("%q: %s: %s, not %s", src, ask, got, want)
		}
		if strings.HasPrefix(want, "error") && fmt.Sprint(s.Wood()) != before {
			t.Errorf("%q: %s: what is refused changes nothing", src, ask)
		}
	}
}

// P23.1
func TestNew(t *testing.T) {
	for src, want := range map[string]struct {
		at int
		e  api.Errno
	}{"": {0, api.ErrMain}, "fn": {2, api.ErrSyntax}, "fn main(){\n\na=1;}": {3, api.ErrUnknown}, "fn main(){#": {10, api.ErrByte}} {
		if s, at, e := New(src); s != nil || at != want.at || e != want.e {
			t.Errorf("%q: %d at %d", src, e, at)
		}
	}
	s := begin(t, "fn main(){}")
	if w := s.Wood(); !reflect.DeepEqual(w, tree.New()) {
		t.Error(w)
	}
}

// P23.2: step, back, go, line, watch.
func TestTimes(t *testing.T) {
	talk(t, "fn main(){let a=1;print a;}",
		"step > at main 1 a=1|in 0 runs", "step > out 1|in 0 ends", "step > error 63", "back > at main 1 a=1|in 0 runs",
		"back > at main 1|in 0 runs", "back > error 63", "go 2 > out 1|in 0 ends", "go 3 > error 63", "go -1 > error 63", "go 201 > error 63",
		"go 9223372036854775807 > error 63", "go 0 > at main 1|in 0 runs", "show > at main 1|in 0 runs")
	loop := "fn f(n int)int{\nlet r=n+1;\nreturn r;\n}\nfn main(){\nlet a=0;\nwhile a<3{\na=f(a);\n}\nlet b=1/(a-3);\n}"
	talk(t, loop,
		"line 8 > at main 8 a=0|in 0 runs", "line 2 > at main 8 a=0|at f 2 n=0|in 0 runs", "line 3 > at main 8 a=0|at f 3 n=0 r=1|in 0 runs",
		"line 3 > at main 8 a=1|at f 3 n=1 r=2|in 0 runs", "line 7 > at main 7 a=2|in 0 runs", "line 1 > error 63", "line 0 > error 63", "line 11 > error 63",
		"line 10 > at main 10 a=3|in 0 runs", "line 10 > at main 10 a=3|in 0 falls 1", "line 10 > error 63", "go 0 > at main 6|in 0 runs", "line 6 > error 63")
	talk(t, loop,
		"watch a > at main 7 a=0|in 0 runs", "watch a > at main 8 a=0|at f 2 n=0|in 0 runs", "watch a > at main 7 a=1|in 0 runs",
		"step > at main 8 a=1|in 0 runs", "step > at main 8 a=1|at f 2 n=1|in 0 runs", "watch n > at main 7 a=2|in 0 runs", "watch n > at main 8 a=2|at f 2 n=2|in 0 runs",
		"watch q > error 63", "watch r > at main 8 a=2|at f 3 n=2 r=3|in 0 runs", "watch b > error 63", "watch r > at main 7 a=3|in 0 runs", "watch a > error 63")
	talk(t, "fn main(){let a=1;print a;}", "step > at main 1 a=1|in 0 runs", "watch a > out 1|in 0 ends", "watch a > error 63", "line 1 > error 63")
	talk(t, "fn main(){let l=new(1);let m=l;l[0]=1;m=new(1);m[0]=1;}", "watch l > at main 1 l=#1[0]|in 0 runs", "watch l > at main 1 l=#1[1] m=#1[1]|in 0 runs", "watch m > at main 1 l=#1[1] m=#2[0]|in 0 runs")
	talk(t, "fn main(){let a=1;while true{}}", "go 199 > at main 1 a=1|in 0 runs", "step > at main 1 a=1|in 0 runs", "step > error 63", "line 1 > error 63", "go 198 > at main 1 a=1|in 0 runs", "line 1 > at main 1 a=1|in 0 runs", "list > main* 0 0 0|time 199")
	talk(t, "fn main(){let a=input;\na=input;}", "step > error 63", "line 2 > error 63", "input 5 > ok", "line 2 > at main 2 a=5|in 1 runs", "line 2 > error 63", "watch a > error 63", "step > error 63")
}

// P23.2: what is done of timelines.
func TestBranches(t *testing.T) {
	src := "fn main(){let a=input;let b=a;while a<9{a=a+b;}\nprint b;}"
	talk(t, src,
		"list > main* 0 0 0|time 0", "input 3 > ok", "list > main* 1 0 0|time 0", "go 2 > at main 1 a=3 b=3|in 1 runs",
		"fork x b 4 > ok", "show > at main 1 a=3 b=4|in 1 runs", "list > main 1 0 0|x* 1 0 1|time 2",
		"fork x b 4 > error 61", "fork X b 4 > error 1", "fork y q 4 > error 65", "fork y b true > error 65", "fork 123456789 b 4 > error 1", "fork y 123456789 4 > error 1",
		"diff main > 0 b 4 | 3", "diff x > same", "diff y > error 60", "first main > first 2", "first x > same", "first y > error 60",
		"switch main > ok", "diff x > 0 b 3 | 4", "switch y > error 60", "take y 8 > ok", "list > main 1 0 0|x 1 0 1|y* 2 0 0|time 2", "first main > same",
		"set a 8 > ok", "set q 8 > error 65", "set a \"8\" > error 65", "set 123456789 8 > error 1", "list > main 1 0 0|x 1 0 1|y* 2 0 1|time 2", "show > at main 1 a=8 b=3|in 1 runs",
		"go 5 > at main 2 a=11 b=3|in 1 runs", "switch x > ok", "show > at main 1 a=7 b=4|in 1 runs", "go 7 > at main 2 a=11 b=4|in 1 runs",
		"switch main > ok", "show > at main 2 a=9 b=3|in 1 runs",
		"rename y z > ok", "rename y z > error 60", "rename z main > error 61", "rename z z > error 61", "rename z Z > error 1", "rename main root > ok",
		"rebase z x > ok", "list > root* 1 0 0|x 1 0 1|z 1 1 1|time 7", "rebase root x > error 64", "rebase x x > error 1", "rebase x q > error 60", "rebase q x > error 60",
		"prune root > error 64", "prune q > error 60", "switch z > ok", "list > root 1 0 0|x 1 0 1|z* 1 1 1|time 6", "prune z > ok", "list > root* 1 0 0|x 1 0 1|time 6",
		"switch x > ok", "set a 1 > ok", "list > root 1 0 0|x* 1 0 2|time 6", "rebase x root > ok")
	talk(t, "fn main(){let a=input;if a<1{let b=2;a=b;}a=a;a=a;}",
		"input 0 > ok", "go 3 > at main 1 a=0 b=2|in 1 runs", "fork x b 4 > ok", "switch main > ok", "go 0 > at main 1|in 0 runs",
		"take y 5 > ok", "list > main 1 0 0|x 1 0 1|y* 1 0 0|time 0", "rebase x y > error 65 1", "step > at main 1 a=5|in 1 runs", "set a 6 > ok", "rebase x y > error 65 2",
		"rebase y x > error 65 2", "list > main 1 0 0|x 1 0 1|y* 1 0 1|time 1", "set a 0 > ok", "rebase x y > ok", "list > main 1 0 0|x 1 2 1|y* 1 0 2|time 1")
	many := []string{"input 1 > ok", "step > at main 1 a=1|in 1 runs"}
	for _, n := range strings.Split("bcdefgh", "") {
		many = append(many, "fork "+n+" a 1 > ok")
	}
	talk(t, "fn main(){let a=input;while true{a=input;}}", append(many, "fork i a 1 > error 62", "take i 1 > error 62", "fork b a 1 > error 61", "set a 1 > ok", "set a 1 > error 62", "prune c > ok", "fork i a 1 > error 62")...)
	inputs := slices.Repeat([]string{"input 1 > ok"}, 16)
	talk(t, "fn main(){let a=input;while true{a=input;}}", append(inputs, "input 1 > error 62", "go 31 > at main 1 a=1|in 16 runs", "take b 1 > error 62", "go 33 > error 63", "take b 1 > error 62")...)
}

// P23.2: words' errors.
func TestNoLine(t *testing.T) {
	talk(t, "fn main(){}", "none > error 80", "step  > error 80", "go > error 80", "save > error 80", "show > in 0 ends", "list > main* 0 0 0|time 0", "step > error 63", "diff main > same", "first main > same", "text > error 80")
	if got := begin(t, "fn main(){}").Do(""); got != "error 80" {
		t.Error(got)
	}
}

// P23.1: Save and Load.
func TestSaveLoad(t *testing.T) {
	src := "fn main(){let a=input;print a;}"
	s := begin(t, src)
	s.Do("input 7")
	s.Do("go 1")
	s.Do("fork b a 5")
	b := s.Save()
	if want, e := save.Put(src, s.Wood()); e != api.OK || !bytes.Equal(b, want) {
		t.Error(b, e)
	}
	other := begin(t, "fn main(){}")
	if e := other.Load(b); e != api.OK || !reflect.DeepEqual(fmt.Sprint(other.Wood()), fmt.Sprint(s.Wood())) {
		t.Error(e, other.Wood())
	}
	for _, line := range []string{"show", "step", "list", "diff main", "rebase b main", "switch main", "show"} {
		if x, y := s.Do(line), other.Do(line); x != y {
			t.Errorf("%s: %q and %q", line, x, y)
		}
	}
	before := other.Save()
	for e, wrong := range map[api.Errno][]byte{api.ErrShort: b[:len(b)-1], api.ErrCorrupt: append(slices.Clone(b), 0)} {
		if got := other.Load(wrong); got != e || !bytes.Equal(other.Save(), before) {
			t.Error(e, got)
		}
	}
	if e := other.Load(nil); e != api.ErrShort {
		t.Error(e)
	}
	w := s.Wood()
	w.L[0].Inputs[0] = 99
	w.L[0].Name = "none"
	w.L = w.L[:1]
	if got := s.Wood(); len(got.L) != 2 || got.L[0].Name != "main" || got.L[0].Inputs[0] != 7 {
		t.Error("the wood is told as one of its own")
	}
}

// plainly answers a line by what the source means from time 0 on.
func plainly(p api.Prog, w api.Wood, line string) (string, api.Wood) {
	c, e := words.Read(line)
	if e != api.OK {
		return fmt.Sprint("error ", e), w
	}
	see := func(b api.Branch, t int) (api.View, int) {
		s, _ := trace.Source(p, b.Inputs, branch.All(b), t)
		return view.Source(p, s), s.Time
	}
	cur := w.L[w.Cur]
	now, _ := see(cur, w.Time)
	shown := func(v api.View) string {
		if len(v.Calls) > 0 {
			for _, x := range v.Calls[len(v.Calls)-1].Vars {
				if x.Name == c.A {
					return x.Text
				}
			}
		}
		return "none"
	}
	goes := func(t int) (string, api.Wood) {
		v, at := see(cur, t)
		if t < 0 || t > api.MaxTime || at != t {
			return "error 63", w
		}
		w.Time = t
		return strings.Join(view.Lines(v), "\n"), w
	}
	seek := func(is func(v api.View) bool) (string, api.Wood) {
		for t := w.Time + 1; t <= api.MaxTime; t++ {
			if v, at := see(cur, t); at == t && is(v) {
				return goes(t)
			}
		}
		return "error 63", w
	}
	done := func(next api.Wood, e api.Errno) (string, api.Wood) {
		if e != api.OK {
			return fmt.Sprint("error ", e), w
		}
		return "ok", next
	}
	other := tree.Find(w, c.A)
	switch c.Verb {
	case "step":
		return goes(w.Time + 1)
	case "back":
		return goes(w.Time - 1)
	case "go":
		return goes(c.N)
	case "line":
		return seek(func(v api.View) bool { return len(v.Calls) > 0 && v.Calls[len(v.Calls)-1].Line == c.N })
	case "watch":
		return seek(func(v api.View) bool { return shown(v) != shown(now) })
	case "show":
		return strings.Join(view.Lines(now), "\n"), w
	case "input":
		return done(tree.Append(w, c.N))
	case "set":
		return done(tree.Add(p, w, c.A, c.V))
	case "switch":
		return done(tree.Switch(p, w, c.A))
	case "prune":
		return done(tree.Prune(p, w, c.A))
	case "rename":
		return done(tree.Rename(w, c.A, c.B))
	case "take":
		return done(tree.Input(p, w, c.A, c.N))
	case "fork":
		return done(tree.Fork(p, w, c.A, c.B, c.V))
	case "rebase":
		next, bad, e := tree.Rebase(p, w, c.A, c.B)
		if e == api.ErrEdit {
			return fmt.Sprint("error 65 ", bad), w
		}
		return done(next, e)
	case "list":
		s := ""
		for i, b := range w.L {
			s += b.Name
			if i == w.Cur {
				s += "*"
			}
			s += fmt.Sprintln("", len(b.Inputs), len(b.Base), len(b.Own))
		}
		return s + fmt.Sprint("time ", w.Time), w
	}
	if other < 0 {
		return "error 60", w
	}
	if c.Verb == "diff" {
		v, _ := see(w.L[other], w.Time)
		if l := diff.Of(now, v); len(l) > 0 {
			return strings.Join(l, "\n"), w
		}
		return "same", w
	}
	for t := range api.MaxTime + 1 {
		x, _ := see(cur, t)
		if y, _ := see(w.L[other], t); !view.Same(x, y) {
			return fmt.Sprint("first ", t), w
		}
	}
	return "same", w
}

// asked is a line, most of them of what is there.
func asked(mk *samples.Maker, p api.Prog, w api.Wood) string {
	names := []string{"b", "c", "d", "e", "Q"}
	for _, b := range w.L {
		names = append(names, b.Name, b.Name)
	}
	name := func() string { return names[mk.Pick(len(names))] }
	variable, v := "v0", mk.Value(1+mk.Pick(3))
	m, _ := trace.Machine(p, w.L[w.Cur].Inputs, branch.All(w.L[w.Cur]), w.Time)
	if s := m.State(); len(s.Calls) > 0 {
		if l := check.Visible(p, s.Calls[len(s.Calls)-1].Node); len(l) > 0 {
			x := l[mk.Pick(len(l))]
			variable = x.Name
			if x.Type != api.TyList {
				v = mk.Value(x.Type)
			}
		}
	}
	switch verb := []string{"step", "step", "back", "go", "line", "watch", "watch", "input", "set", "switch", "prune", "rename", "rebase", "take", "fork", "fork", "show", "list", "diff", "first"}[mk.Pick(20)]; verb {
	case "go", "input", "line":
		return fmt.Sprint(verb, " ", mk.Pick(14)-1)
	case "switch", "prune", "diff", "first":
		return verb + " " + name()
	case "watch":
		return verb + " " + variable
	case "rename", "rebase":
		return verb + " " + name() + " " + name()
	case "take":
		return fmt.Sprint(verb, " ", name(), " ", mk.Pick(6))
	case "set":
		return verb + " " + variable + " " + value.Quoted(v)
	case "fork":
		return verb + " " + name() + " " + variable + " " + value.Quoted(v)
	default:
		return verb
	}
}

// P23.2, P23.3, T1, T3: each answer is what flat branches and the source say; and who loads goes on as the other one.
func TestPlainly(t *testing.T) {
	done := map[string]int{}
	for n := range 250 {
		mk := samples.New(n)
		src, p := mk.Program()
		s, w := begin(t, src), tree.New()
		var ahead []string
		for range 40 {
			line := asked(mk, p, w)
			ahead = append(ahead, line)
			var want string
			want, w = plainly(p, w, line)
			got := s.Do(line)
			if got != want || fmt.Sprint(s.Wood()) != fmt.Sprint(w) {
				t.Fatalf("%q, %q: %q, not %q; %v, not %v", src, ahead, got, want, s.Wood(), w)
			}
			verb, _, _ := strings.Cut(line, " ")
			if !strings.HasPrefix(got, "error") {
				done[verb]++
			}
			if mk.Pick(8) == 0 {
				other := begin(t, "fn main(){}")
				if e := other.Load(s.Save()); e != api.OK {
					t.Fatalf("%q, %q: %d", src, ahead, e)
				}
				s = other
			}
		}
	}
	if len(done) != 17 {
		t.Error(done)
	}
	for verb, n := range done {
		if n < 20 {
			t.Error("too few of", verb, n)
		}
	}
}

// R1: a session that no one made new has no program.
func TestNought(t *testing.T) {
	s := &Session{}
	if s.Do("show") != "error 81" || s.Do("none") != "error 80" || len(s.Save()) != 0 || len(s.Wood().L) != 0 {
		t.Error("nought")
	}
}
