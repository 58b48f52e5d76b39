package lex

import (
	"slices"
	"strings"
	"testing"

	"furcate/api"
)

// P1.1
func TestWord(t *testing.T) {
	all := strings.Fields("fn let if else while return print input new len true false int bool text list")
	for _, w := range all {
		if !Word(w) {
			t.Errorf("%q is a word", w)
		}
	}
	for _, w := range []string{"", " ", "main", "Fn", "FN", "fn ", " fn", "fnlet", "fn let", "whil", "whiles", "none"} {
		if Word(w) {
			t.Errorf("%q is no word", w)
		}
	}
}

// P1.1
func TestLine(t *testing.T) {
	src := "\na\r\n\nb"
	for at, want := range map[int]int{-5: 1, -1: 1, 0: 1, 1: 2, 2: 2, 3: 2, 4: 3, 5: 4, 6: 4, 7: 4, 1 << 60: 4, -1 << 63: 1} {
		if got := Line(src, at); got != want {
			t.Errorf("Line at %d: %d, not %d", at, got, want)
		}
	}
	if Line("", 0) != 1 || Line("", 9) != 1 || Line("\n", 0) != 1 || Line("\n", 1) != 2 {
		t.Error("lines of short sources")
	}
}

func tk(kind int, text string, at int) api.Token { return api.Token{Kind: kind, Text: text, At: at} }

// P1.2
func TestAll(t *testing.T) {
	for src, want := range map[string][]api.Token{
		"":                       {tk(0, "", 0)},
		" \t\r\n":                {tk(0, "", 4)},
		"x1<=2//a":               {tk(api.TkName, "x1", 0), tk(api.TkSign, "<=", 2), tk(api.TkInt, "2", 4), tk(0, "", 8)},
		"//a\n//b":               {tk(0, "", 7)},
		"a//\nb":                 {tk(api.TkName, "a", 0), tk(api.TkName, "b", 4), tk(0, "", 5)},
		"\"//\"/":                {tk(api.TkText, "//", 0), tk(api.TkSign, "/", 4), tk(0, "", 5)},
		"\"\"\" ~\"":             {tk(api.TkText, "", 0), tk(api.TkText, " ~", 2), tk(0, "", 6)},
		"\"123456789012\"":       {tk(api.TkText, "123456789012", 0), tk(0, "", 14)},
		"\"fn\"fn":               {tk(api.TkText, "fn", 0), tk(api.TkWord, "fn", 4), tk(0, "", 6)},
		"12ab":                   {tk(api.TkInt, "12", 0), tk(api.TkName, "ab", 2), tk(0, "", 4)},
		"A_9z":                   {tk(api.TkName, "A_9z", 0), tk(0, "", 4)},
		"abcdefgh":               {tk(api.TkName, "abcdefgh", 0), tk(0, "", 8)},
		"returns":                {tk(api.TkName, "returns", 0), tk(0, "", 7)},
		"9223372036854775807":    {tk(api.TkInt, "9223372036854775807", 0), tk(0, "", 19)},
		"0000000000000000001":    {tk(api.TkInt, "0000000000000000001", 0), tk(0, "", 19)},
		"===":                    {tk(api.TkSign, "==", 0), tk(api.TkSign, "=", 2), tk(0, "", 3)},
		"<<==":                   {tk(api.TkSign, "<", 0), tk(api.TkSign, "<=", 1), tk(api.TkSign, "=", 3), tk(0, "", 4)},
		"!!=":                    {tk(api.TkSign, "!", 0), tk(api.TkSign, "!=", 1), tk(0, "", 3)},
		"||||":                   {tk(api.TkSign, "||", 0), tk(api.TkSign, "||", 2), tk(0, "", 4)},
		"/":                      {tk(api.TkSign, "/", 0), tk(0, "", 1)},
		strings.Repeat(" ", 600): {tk(0, "", 600)},
	} {
		got, at, e := All(src)
		if e != api.OK || at != 0 || !slices.Equal(got, want) {
			t.Errorf("%q: %v %d %d", src, got, at, e)
		}
	}
	for _, s := range strings.Fields("|| && <= == != ( ) { } [ ] , ; = < + - * / % !") {
		got, _, e := All(s)
		if e != api.OK || len(got) != 2 || got[0] != tk(api.TkSign, s, 0) {
			t.Errorf("sign %q: %v %d", s, got, e)
		}
	}
}

// P1.2
func TestRefused(t *testing.T) {
	for src, want := range map[string]struct {
		at int
		e  api.Errno
	}{
		"|":                             {0, api.ErrByte},
		"||| ":                          {2, api.ErrByte},
		"&a":                            {0, api.ErrByte},
		"a.b":                           {1, api.ErrByte},
		"_":                             {0, api.ErrByte},
		">":                             {0, api.ErrByte},
		"a\x00":                         {1, api.ErrByte},
		"\v":                            {0, api.ErrByte},
		"é":                             {0, api.ErrByte},
		"\"":                            {0, api.ErrText},
		"a \"b":                         {2, api.ErrText},
		"\"a\tb\"":                      {0, api.ErrText},
		"\"a\x7f\"":                     {0, api.ErrText},
		"\"a\x80\"":                     {0, api.ErrText},
		"\"1234567890123":               {0, api.ErrText},
		"1 \"1234567890123\"":           {2, api.ErrBig},
		"9223372036854775808":           {0, api.ErrNumber},
		"a 00000000000000000000":        {2, api.ErrNumber},
		"99999999999999999999":          {0, api.ErrNumber},
		"abcdefghi":                     {0, api.ErrName},
		"a abcdefg_9 #":                 {2, api.ErrName},
		"a # abcdefghi":                 {2, api.ErrByte},
		"#" + strings.Repeat(" ", 600):  {0, api.ErrBig},
		strings.Repeat("a ", 300) + "/": {0, api.ErrBig},
	} {
		got, at, e := All(src)
		if len(got) != 0 || at != want.at || e != want.e {
			t.Errorf("%q: %v %d %d", src, got, at, e)
		}
	}
}

// P1.3
func TestAgain(t *testing.T) {
	src := "fn main(a int){let b=-1;// b\n\tif a<=b||!c{print \"x y\"+\"\";}}"
	first, _, e := All(src)
	if e != api.OK {
		t.Fatal(e)
	}
	var b strings.Builder
	from := 0
	for _, k := range first {
		shown := k.Text
		if k.Kind == api.TkText {
			shown = "\"" + shown + "\""
		}
		if k.At < from || !strings.HasPrefix(src[k.At:], shown) {
			t.Errorf("%v does not stand there", k)
		}
		from = k.At + len(shown)
		b.WriteString(shown + " \n")
	}
	second, _, e := All(b.String())
	if e != api.OK || len(second) != len(first) {
		t.Fatal(second, e)
	}
	for i := range first {
		if first[i].Kind != second[i].Kind || first[i].Text != second[i].Text {
			t.Errorf("%v is now %v", first[i], second[i])
		}
	}
}

// R1: whatever bytes there are, it ends, and an error has no tokens.
func TestAnyBytes(t *testing.T) {
	x := uint32(1)
	for range 20000 {
		b := make([]byte, 12)
		for i := range b {
			x = x*1664525 + 1013904223
			b[i] = "\"\n /ab0_|&<=!x\x00\xff"[x>>16%16]
		}
		l, at, e := All(string(b))
		if e != api.OK && (len(l) != 0 || at < 0 || at >= len(b)) || e == api.OK && (at != 0 || len(l) == 0) {
			t.Fatalf("%q: %v %d %d", b, l, at, e)
		}
	}
}
