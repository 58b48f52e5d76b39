package code

import (
	"bytes"
	"math"
	"reflect"
	"slices"
	"strings"
	"testing"

	"furcate/api"
)

// fields are what each instruction has, in order of their numbers.
const fields = "A A A S AB A S - - - A A - - - A A A A AB - A -"

func fieldsOf(op int) string { return strings.Fields(fields)[op-1] }

// P8.1
func TestMay(t *testing.T) {
	for op := -2; op < 40; op++ {
		if op < 1 || op > 23 {
			if May(api.Instr{Op: op}) {
				t.Errorf("%d is none", op)
			}
			continue
		}
		f := fieldsOf(op)
		for _, n := range []int{-1, 1, 1 << 30, 1<<30 + 1, math.MinInt} {
			fits := n >= 0 && n <= 1<<30 || op == api.OpInt
			if got := May(api.Instr{Op: op, A: n}); got != (strings.Contains(f, "A") && fits) {
				t.Errorf("%d A %d: %v", op, n, got)
			}
			fits = n >= 0 && n <= 1<<30
			if got := May(api.Instr{Op: op, B: n}); got != (strings.Contains(f, "B") && fits) {
				t.Errorf("%d B %d: %v", op, n, got)
			}
		}
		for _, n := range []int{1, 40, 41} {
			if got := May(api.Instr{Op: op, S: strings.Repeat("\x00", n)}); got != (strings.Contains(f, "S") && n <= 40) {
				t.Errorf("%d S %d: %v", op, n, got)
			}
		}
		if !May(api.Instr{Op: op}) {
			t.Errorf("%d without all", op)
		}
	}
}

// P8.4
func TestLine(t *testing.T) {
	for i, want := range strings.Fields("mark int bool text load store bin neg not len index put new input print jump false and or call ret none pop") {
		op := i + 1
		if Name(op) != want {
			t.Errorf("%d: %q", op, Name(op))
		}
		switch fieldsOf(op) {
		case "A":
			want += " 2"
		case "AB":
			want += " 2 -3"
		case "S":
			want += " x y"
		}
		if got := Line(api.Instr{Op: op, A: 2, B: -3, S: "x y"}); got != want {
			t.Errorf("%q, not %q", got, want)
		}
	}
	if Name(0) != "" || Name(24) != "" || Name(-1) != "" || Name(math.MaxInt) != "" || Line(api.Instr{Op: 24, A: 1}) != "" {
		t.Error("none of others")
	}
	if Line(api.Instr{Op: api.OpText}) != "text " || Line(api.Instr{Op: api.OpInt, A: math.MinInt}) != "int -9223372036854775808" {
		t.Error("lines of edges")
	}
}

func sample() api.Code {
	return api.Code{Entry: []int{0, 3}, Ins: []api.Instr{{Op: api.OpInt, A: -2}, {Op: api.OpLoad, A: 258, B: 1}, {Op: api.OpText, S: "ab"}, {Op: api.OpNeg}, {Op: api.OpBin, S: ""}}}
}

func sampleBytes() []byte {
	return slices.Concat([]byte{2}, make([]byte, 8), []byte{0, 0, 0, 0, 0, 0, 0, 3}, []byte{0, 0, 0, 0, 0, 0, 0, 5},
		[]byte{2, 255, 255, 255, 255, 255, 255, 255, 254}, []byte{5, 0, 0, 0, 0, 0, 0, 1, 2, 0, 0, 0, 0, 0, 0, 0, 1}, []byte{4, 2, 'a', 'b', 8, 7, 0})
}

// P8.2
func TestPut(t *testing.T) {
	got, e := Put(sample())
	if e != api.OK || !bytes.Equal(got, sampleBytes()) {
		t.Errorf("%v %d", got, e)
	}
	if got, e := Put(api.Code{}); e != api.OK || !bytes.Equal(got, make([]byte, 9)) {
		t.Errorf("%v %d", got, e)
	}
	many := make([]api.Instr, 1201)
	if _, e := Put(api.Code{Ins: many}); e != api.ErrBig {
		t.Error("too many instructions:", e)
	}
	if _, e := Put(api.Code{Ins: many[:1200]}); e != api.ErrArg {
		t.Error("those may not be:", e)
	}
	for i := range many {
		many[i].Op = api.OpPop
	}
	if b, e := Put(api.Code{Ins: many[:1200], Entry: []int{1200, 0, 0, 0, 0, 0}}); e != api.OK || len(b) != 1+48+8+1200 {
		t.Error(len(b), e)
	}
	for _, c := range []api.Code{{Entry: []int{1}}, {Entry: []int{-1}}, {Ins: many[:3], Entry: []int{3, 4}}, {Ins: []api.Instr{{Op: api.OpPop, A: 1}}}, {Ins: []api.Instr{{Op: 24}}}} {
		if b, e := Put(c); e != api.ErrArg || len(b) != 0 {
			t.Errorf("%v: %d", c, e)
		}
	}
	if _, e := Put(api.Code{Entry: make([]int, 7), Ins: []api.Instr{{}}}); e != api.ErrBig {
		t.Error("too many entries:", e)
	}
}

// P8.3, P8.5
func TestTake(t *testing.T) {
	want := sampleBytes()
	if got, e := Take(want); e != api.OK || !reflect.DeepEqual(got, sample()) {
		t.Errorf("%v %d", got, e)
	}
	for n := range want {
		if got, e := Take(want[:n]); e != api.ErrShort || len(got.Ins)+len(got.Entry) != 0 {
			t.Errorf("the first %d: %d", n, e)
		}
	}
	if got, e := Take(append(slices.Clone(want), 0)); e != api.ErrCorrupt || len(got.Ins)+len(got.Entry) != 0 {
		t.Error("bytes left behind:", e)
	}
	head := make([]byte, 8)
	size := func(n byte) []byte { return append(make([]byte, 7), n) }
	for _, c := range []struct {
		b []byte
		e api.Errno
	}{
		{nil, api.ErrShort}, {[]byte{6}, api.ErrShort}, {[]byte{7}, api.ErrCorrupt}, {[]byte{255, 1}, api.ErrCorrupt},
		{slices.Concat([]byte{1}, size(1), head), api.ErrCorrupt},
		{slices.Concat([]byte{1}, size(1), head[1:]), api.ErrShort},
		{slices.Concat([]byte{1}, []byte{255, 255, 255, 255, 255, 255, 255, 255}, size(1), []byte{23}), api.ErrCorrupt},
		{slices.Concat([]byte{0}, []byte{255, 0, 0, 0, 0, 0, 0, 0}), api.ErrCorrupt},
		{slices.Concat([]byte{0}, []byte{0, 0, 0, 0, 0, 0, 4, 177}), api.ErrCorrupt},
		{slices.Concat([]byte{0}, []byte{0, 0, 0, 0, 0, 0, 4, 176}), api.ErrShort},
		{slices.Concat([]byte{0}, size(1), []byte{0}), api.ErrCorrupt},
		{slices.Concat([]byte{0}, size(2), []byte{24}), api.ErrCorrupt},
		{slices.Concat([]byte{0}, size(1), []byte{4, 41}), api.ErrCorrupt},
		{slices.Concat([]byte{0}, size(1), []byte{4, 40}), api.ErrShort},
		{slices.Concat([]byte{0}, size(1), []byte{1}, []byte{0, 0, 0, 0, 64, 0, 0, 1}), api.ErrCorrupt},
		{slices.Concat([]byte{0}, size(1), []byte{1}, []byte{0, 0, 0, 0, 64, 0, 0, 0}), api.OK},
		{slices.Concat([]byte{0}, size(1), []byte{1}, []byte{255, 0, 0, 0, 0, 0, 0, 0}), api.ErrCorrupt},
		{slices.Concat([]byte{0}, size(1), []byte{5}, []byte{255, 0, 0, 0, 0, 0, 0, 0}), api.ErrShort},
		{slices.Concat([]byte{0}, size(1), []byte{5}, head, []byte{255, 0, 0, 0, 0, 0, 0, 0}), api.ErrCorrupt},
		{slices.Concat([]byte{0}, size(1), []byte{23, 23}), api.ErrCorrupt},
		{make([]byte, 9), api.OK}, {make([]byte, 10), api.ErrCorrupt},
		{slices.Concat([]byte{1}, head, head), api.OK},
		{slices.Concat([]byte{2}, size(1), head, size(1), []byte{23}), api.OK},
		{slices.Concat([]byte{2}, size(1), size(2), size(1), []byte{23}), api.ErrCorrupt},
		{slices.Concat([]byte{0}, size(1), []byte{23}), api.OK},
		{slices.Concat([]byte{0}, size(2), []byte{23}), api.ErrShort},
	} {
		got, e := Take(c.b)
		if e != c.e || e != api.OK && len(got.Ins)+len(got.Entry) != 0 {
			t.Errorf("%v: %d, not %d", c.b, e, c.e)
		}
	}
}

// P8.5: whatever is taken is what is put of it.
func TestNobodyElses(t *testing.T) {
	x := uint32(5)
	for range 20000 {
		b := sampleBytes()
		for range 2 {
			x = x*1664525 + 1013904223
			b[int(x>>16)%len(b)] = byte(x >> 8)
		}
		c, e := Take(b)
		if e != api.OK {
			continue
		}
		if again, e := Put(c); e != api.OK || !bytes.Equal(again, b) {
			t.Fatalf("%v: %v %d", b, again, e)
		}
	}
}
