package desk

import (
	"slices"
	"strings"
	"testing"

	"furcate/api"
	"furcate/parse"
	"furcate/samples"
	"furcate/session"
)

func bars(s string) string { return strings.ReplaceAll(s, "\n", "|") }

// P24.1
func TestText(t *testing.T) {
	for src, want := range map[string]string{
		"":                               "",
		"fn main() { print (1+2) * 3; }": "fn main(){|print (1+2)*3;|}|",
		"fn f(){print a;}":               "fn f(){|print a;|}|",
		"fn main(":                       "error 20 at 8|",
		"fn main(){\n#}":                 "error 10 at 11|",
		strings.Repeat(" ", 601):         "error 4 at 0|",
	} {
		if got := bars(Text(src)); got != want {
			t.Errorf("%q: %s", src, got)
		}
	}
}

// P24.1
func TestCode(t *testing.T) {
	for src, want := range map[string]string{
		"fn main(){print 1+2;}":            "mark 3|int 1|int 2|bin +|print|none 0|",
		"fn main(){}":                      "none 0|",
		"fn main(){let a=\"\";a=\"x y\";}": "mark 1|text |store 0|mark 3|text x y|store 0|none 0|",
		"":                                 "error 44 at 0|",
		"fn main(":                         "error 20 at 8|",
		"fn main(){\nprint a;}":            "error 40 at 2|",
		"fn f(){}\nfn f(){}":               "error 41 at 2|",
	} {
		if got := bars(Code(src)); got != want {
			t.Errorf("%q: %s", src, got)
		}
	}
}

// P24.2
func TestRun(t *testing.T) {
	a := "fn main(){let a=1;print a;}"
	for _, c := range [][3]string{
		{"fn main(){}", "show", "in 0 ends|"},
		{"fn main(){}", "show\n", "in 0 ends|"},
		{"fn main(){}", "", ""},
		{"fn main(){}", "\n", "error 80|"},
		{"fn main(){}", "\n\nshow", "error 80|error 80|in 0 ends|"},
		{"fn main(){}", "show\n\n", "in 0 ends|error 80|"},
		{"fn main(){}", "show\r\nshow ", "error 80|error 80|"},
		{"", "show\nshow\n", "error 44 at 0|"},
		{"fn main(", "", "error 20 at 8|"},
		{"fn main(){\nprint a;}", "text", "error 40 at 2|"},
		{a, "step\nfork b a 5\nstep\nsave\ndiff main\nback\nlist\nload\nlist\n", "at main 1 a=1|in 0 runs|ok|out 5|in 0 ends|ok|out 5 | -|out - | 1|at main 1 a=5|in 0 runs|main 0 0 0|b* 0 0 1|time 1|ok|main 0 0 0|b* 0 0 1|time 2|"},
		{a, "load\nstep\nload\nsave\nstep\nsave\nback\nload\nlist\nload\nlist", "error 81|at main 1 a=1|in 0 runs|error 81|ok|out 1|in 0 ends|ok|at main 1 a=1|in 0 runs|ok|main* 0 0 0|time 2|ok|main* 0 0 0|time 2|"},
		{a, "text\ncode\ntext \nsave x\nload x", "fn main(){|let a=1;|print a;|}|mark 1|int 1|store 0|mark 3|load 0 1|print|none 0|error 80|error 80|error 80|"},
	} {
		got, e := Run(c[0], c[1])
		if e != api.OK || bars(got) != c[2] {
			t.Errorf("%q, %q: %s %d", c[0], c[1], bars(got), e)
		}
	}
}

// P24.2: how many lines.
func TestBig(t *testing.T) {
	r := strings.Repeat
	for script, want := range map[string]api.Errno{
		r("\n", 60): api.OK, r("\n", 61): api.ErrBig, r("list\n", 60): api.OK, r("list\n", 60) + "l": api.ErrBig, r("list\n", 59) + "list": api.OK, r("x", 9999): api.OK,
	} {
		got, e := Run("fn main(){}", script)
		if e != want || (e != api.OK) != (got == "") {
			t.Errorf("%q: %d", script, e)
		}
	}
	if got, e := Run("none", r("\n", 61)); e != api.ErrBig || got != "" {
		t.Error(got, e)
	}
}

// P24.3: a script and another one behind it.
func TestBehind(t *testing.T) {
	some := strings.Split("step;step;back;go 3;watch v0;line 1;line 2;input 3;set v0 2;fork b v0 1;fork c v1 true;take d 2;switch main;switch b;rebase c b;prune b;rename c b;first b;diff b;save;load;list;text;show;none", ";")
	for n := range 150 {
		mk := samples.New(n)
		src, _ := mk.Program()
		s, _, e := session.New(src)
		if e != api.OK {
			t.Fatal(e)
		}
		var kept []byte
		var all, want string
		for range 40 {
			line := some[mk.Pick(len(some))]
			all += line + "\n"
			answer := "ok"
			switch line {
			case "save":
				kept = s.Save()
			case "load":
				if kept == nil {
					answer = "error 81"
				} else if e := s.Load(slices.Clone(kept)); e != api.OK {
					t.Fatal(e)
				}
			case "text":
				answer = strings.TrimSuffix(Text(src), "\n")
			default:
				answer = s.Do(line)
			}
			want += answer + "\n"
			if mk.Pick(4) == 0 {
				if got, e := Run(src, all); e != api.OK || got != want {
					t.Fatalf("%q, %q: %q, not %q", src, all, got, want)
				}
			}
		}
		if got, e := Run(src, strings.TrimSuffix(all, "\n")); e != api.OK || got != want {
			t.Fatalf("%q, %q: %q, not %q", src, all, got, want)
		}
		if tree, _, e := parse.All(Text(src)); len(Text(src)) <= api.MaxSource && (e != api.OK || len(tree.Fns) == 0) {
			t.Fatalf("%q: %d", src, e)
		}
	}
}
