package words

import (
	"math"
	"strings"
	"testing"

	"furcate/api"
	"furcate/value"
)

// fields are what each verb has.
func fields() map[string]string {
	return map[string]string{
		"step": "", "back": "", "show": "", "list": "", "go": "N", "input": "N", "line": "N",
		"switch": "A", "diff": "A", "first": "A", "prune": "A", "watch": "A", "rename": "AB", "rebase": "AB",
		"take": "AN", "set": "AV", "fork": "ABV",
	}
}

func filled(verb, f string) api.Cmd {
	c := api.Cmd{Verb: verb}
	for _, x := range f {
		switch x {
		case 'A':
			c.A = "a"
		case 'B':
			c.B = "b"
		case 'N':
			c.N = -7
		case 'V':
			c.V = value.Bool(true)
		}
	}
	return c
}

// P22.1, P22.2: each verb has its own fields, and no other one.
func TestVerbs(t *testing.T) {
	for verb, f := range fields() {
		want := verb + strings.NewReplacer("A", " a", "B", " b", "N", " -7", "V", " true").Replace(f)
		c := filled(verb, f)
		if got, e := Line(c); e != api.OK || got != want {
			t.Errorf("%v: %q %d", c, got, e)
		}
		if got, e := Read(want); e != api.OK || got != c {
			t.Errorf("%q: %v %d", want, got, e)
		}
		for _, x := range "ABNV" {
			other := filled(verb, f)
			switch {
			case !strings.ContainsRune(f, x):
				other = filled(verb, f+string(x))
			case x == 'N':
				continue
			default:
				other = filled(verb, strings.Replace(f, string(x), "", 1))
			}
			if got, e := Line(other); e != api.ErrArg || got != "" {
				t.Errorf("%v: %q %d", other, got, e)
			}
		}
		for _, line := range []string{want + " ", want + " a", " " + want, want + "\n", strings.ToUpper(verb) + want[len(verb):], strings.Replace(want+" ", " ", "  ", 1), strings.Replace(want+" ", " ", "\t", 1)} {
			if got, e := Read(line); e != api.ErrWord || got != (api.Cmd{}) {
				t.Errorf("%q: %v %d", line, got, e)
			}
		}
	}
	for _, verb := range []string{"", "steps", "Step", "step ", "none"} {
		if got, e := Line(api.Cmd{Verb: verb}); e != api.ErrArg || got != "" {
			t.Errorf("%q: %q %d", verb, got, e)
		}
	}
}

// P22.1
func TestLine(t *testing.T) {
	r := strings.Repeat
	text := func(s string) api.Cmd { return api.Cmd{Verb: "set", A: "a", V: value.Text(s)} }
	for _, c := range []struct {
		c    api.Cmd
		want string
	}{
		{api.Cmd{Verb: "fork", A: "b", B: "a", V: value.Int(-5)}, "fork b a -5"},
		{api.Cmd{Verb: "go", N: math.MinInt}, "go -9223372036854775808"},
		{api.Cmd{Verb: "go"}, "go 0"},
		{api.Cmd{Verb: "take", A: "!~\"", N: 12}, "take !~\" 12"},
		{api.Cmd{Verb: "prune", A: r("x", 20)}, "prune " + r("x", 20)},
		{text(""), "set a \"\""},
		{text("true"), "set a \"true\""},
		{text("!~'"), "set a \"!~'\""},
		{text(r("x", 40)), "set a \"" + r("x", 40) + "\""},
		{api.Cmd{Verb: "set", A: "a", V: value.Bool(false)}, "set a false"},
		{api.Cmd{Verb: "fork", A: r("x", 20), B: r("y", 20), V: value.Text(r("z", 31))}, "fork " + r("x", 20) + " " + r("y", 20) + " \"" + r("z", 31) + "\""},
		{api.Cmd{Verb: "fork", A: r("x", 20), B: r("y", 20), V: value.Text(r("z", 32))}, ""},
		{api.Cmd{Verb: "prune", A: r("x", 21)}, ""},
		{api.Cmd{Verb: "prune", A: "a b"}, ""},
		{api.Cmd{Verb: "prune", A: "a\x7f"}, ""},
		{api.Cmd{Verb: "prune", A: "a\x80"}, ""},
		{api.Cmd{Verb: "rename", A: "a", B: "\n"}, ""},
		{api.Cmd{Verb: "rename", A: "a", B: r("x", 21)}, ""},
		{text("a b"), ""},
		{text("a\"b"), ""},
		{text("a\x7f"), ""},
		{text("\x1f"), ""},
		{text("\xc3\xa9"), ""},
		{text(r("x", 41)), ""},
		{api.Cmd{Verb: "set", A: "a", V: api.Value{Type: api.TyList, N: 1}}, ""},
		{api.Cmd{Verb: "set", A: "a", V: api.Value{Type: api.TyBool, N: 2}}, ""},
		{api.Cmd{Verb: "set", A: "a", V: api.Value{Type: api.TyInt, S: "x"}}, ""},
		{api.Cmd{Verb: "set", A: "a", V: api.Value{Type: 9}}, ""},
	} {
		got, e := Line(c.c)
		if got != c.want || (e == api.OK) != (c.want != "") || e != api.OK && e != api.ErrArg {
			t.Errorf("%v: %q %d", c.c, got, e)
		}
		if again, e := Read(got); e == api.OK && again != c.c || c.want != "" && e != api.OK {
			t.Errorf("%q: %v %d", got, again, e)
		}
	}
}

// P22.2
func TestRead(t *testing.T) {
	for line, want := range map[string]api.Cmd{
		"fork b a -5":    {Verb: "fork", A: "b", B: "a", V: value.Int(-5)},
		"set true \"1\"": {Verb: "set", A: "true", V: value.Text("1")},
		"set - false":    {Verb: "set", A: "-", V: value.Bool(false)},
		"set a \"\"":     {Verb: "set", A: "a", V: value.Text("")},
		"line 12":        {Verb: "line", N: 12},
		"take 1 1":       {Verb: "take", A: "1", N: 1},
		"watch \"x":      {Verb: "watch", A: "\"x"},
	} {
		if got, e := Read(line); e != api.OK || got != want {
			t.Errorf("%q: %v %d", line, got, e)
		}
	}
	for _, line := range []string{"", " ", "go", "go ", "go x", "go 05", "go +5", "go -0", "go 1.", "go 9223372036854775808", "go 5 5", "go\t5", "set a", "set a ", "set a x", "set a True", "set a \"", "set a \"x", "set a x\"", "set a \"a b\"", "set a \"a\"b\"", "set a 007", "set a #1[]", "set  1", "fork a b", "step 1", "stepper", "switch", "switch a b", "prune " + strings.Repeat("x", 21), "switch \xff", "set a \"" + strings.Repeat("x", 41) + "\"", "go 1\n", "go 1\r", "save", "load", "text", "code", strings.Repeat("go ", 400)} {
		if got, e := Read(line); e != api.ErrWord || got != (api.Cmd{}) {
			t.Errorf("%q: %v %d", line, got, e)
		}
	}
}

// P22.3
func TestJustOne(t *testing.T) {
	x := uint32(6)
	pick := func(n int) int { x = x*1664525 + 1013904223; return int(x>>16) % n }
	some := strings.Fields("step go set fork take rename a b true \" \"\" \"a\" -5 0 00 12 - + x\"")
	read := 0
	for range 60000 {
		var l []string
		for range 1 + pick(4) {
			l = append(l, some[pick(len(some))])
		}
		line := strings.Join(l, " ")
		c, e := Read(line)
		if e != api.OK {
			continue
		}
		read++
		if again, e := Line(c); e != api.OK || again != line {
			t.Fatalf("%q: %v %q", line, c, again)
		}
	}
	if read < 1000 {
		t.Error("too few were read:", read)
	}
}
