package save

import (
	"bytes"
	"reflect"
	"slices"
	"strings"
	"testing"

	"furcate/api"
	"furcate/check"
	"furcate/crc"
	"furcate/samples"
	"furcate/tree"
	"furcate/value"
)

const src = "fn main(){let a=input;let b=true;let s=\"\";while true{}}"

func wood() api.Wood {
	return api.Wood{Cur: 1, Time: 200, L: []api.Branch{
		{Name: "main", Inputs: []int{-2, 258}},
		{Name: "b", Inputs: []int{1}, Base: []api.Edit{{At: 1, Name: "a", V: value.Int(-3)}}, Own: []api.Edit{{At: 2, Name: "b", V: value.Bool(true)}, {At: 200, Name: "s", V: value.Text("x\xff")}}},
	}}
}

// body is what Put lays down of src and wood, but for the length and the check.
func body() []byte {
	return slices.Concat([]byte{1, byte(len(src)), 0}, []byte(src), []byte{2},
		[]byte("\x04main"), []byte{2, 254, 255, 255, 255, 255, 255, 255, 255, 2, 1, 0, 0, 0, 0, 0, 0}, []byte{0, 0},
		[]byte("\x01b"), []byte{1, 1, 0, 0, 0, 0, 0, 0, 0},
		[]byte{1, 1, 1, 'a', 1, 253, 255, 255, 255, 255, 255, 255, 255},
		[]byte{2, 2, 1, 'b', 2, 1}, []byte{200, 1, 's', 3, 2, 'x', 255},
		[]byte{1, 200})
}

// whole has the length ahead, and the check behind.
func whole(body []byte) []byte {
	n := len(body) + 8
	return crc.Put(append([]byte{byte(n), byte(n >> 8), byte(n >> 16), byte(n >> 24)}, body...))
}

func same(a, b api.Wood) bool {
	return a.Cur == b.Cur && a.Time == b.Time && slices.EqualFunc(a.L, b.L, func(x, y api.Branch) bool {
		return x.Name == y.Name && slices.Equal(x.Inputs, y.Inputs) && slices.Equal(x.Base, y.Base) && slices.Equal(x.Own, y.Own)
	})
}

// P21.1
func TestPut(t *testing.T) {
	got, e := Put(src, wood())
	if e != api.OK || !bytes.Equal(got, whole(body())) {
		t.Errorf("%v %d", got, e)
	}
	small := slices.Concat([]byte{33, 0, 0, 0, 1, 11, 0}, []byte("fn main(){}"), []byte("\x01\x04main\x00\x00\x00\x00\x00"))
	if got, e := Put("fn main(){}", tree.New()); e != api.OK || len(got) != 33 || !bytes.Equal(got, crc.Put(small)) {
		t.Errorf("%v %d", got, e)
	}
	long := "fn main(){}" + strings.Repeat(" ", 589)
	if got, e := Put(long, tree.New()); e != api.OK || len(got) != 622 || !bytes.Equal(got[:7], []byte{110, 2, 0, 0, 1, 88, 2}) {
		t.Errorf("%v %d", got, e)
	}
	for s, w := range map[string]api.Wood{"": tree.New(), "fn main()": tree.New(), "fn main(){print a;}": tree.New(), long + " ": tree.New(), "fn main(){}": wood(), src: {}, src + " ": {L: []api.Branch{{Name: "B"}}}} {
		if got, e := Put(s, w); e != api.ErrArg || len(got) != 0 {
			t.Errorf("%q: %v %d", s, got, e)
		}
	}
}

// P21.2
func TestTake(t *testing.T) {
	b := whole(body())
	before := slices.Clone(b)
	s, w, e := Take(b)
	if e != api.OK || s != src || !same(w, wood()) || !bytes.Equal(b, before) {
		t.Errorf("%q %v %d", s, w, e)
	}
	refused := func(what string, b []byte, want api.Errno) {
		t.Helper()
		if s, w, e := Take(b); e != want || s != "" || !reflect.DeepEqual(w, api.Wood{}) {
			t.Errorf("%s: %q %v %d", what, s, w, e)
		}
	}
	for n := range b {
		refused("a beginning", b[:n], api.ErrShort)
	}
	refused("more bytes", append(slices.Clone(b), 0), api.ErrCorrupt)
	refused("nothing", nil, api.ErrShort)
	refused("seven bytes", []byte{0, 0, 0, 0, 0, 0, 0}, api.ErrShort)
	refused("a length of nought", make([]byte, 8), api.ErrCorrupt)
	refused("nothing inside", whole(nil), api.ErrCorrupt)
	refused("a great length", []byte{255, 255, 255, 255, 0, 0, 0, 0, 0}, api.ErrShort)
	for n := range body() {
		refused("a beginning with its check", whole(body()[:n]), api.ErrCorrupt)
	}
	refused("a byte more with its check", whole(append(body(), 0)), api.ErrCorrupt)
	for at, c := range body() {
		for _, other := range []byte{c + 1, c - 1, c ^ 128, 0, 255} {
			changed := body()
			changed[at] = other
			if other == c {
				continue
			}
			// Some bytes may be others: a number's, a text's, a blank of the source. Then it's what Put lays down of that.
			s, w, e := Take(whole(changed))
			again, put := Put(s, w)
			if e == api.OK && (put != api.OK || !bytes.Equal(again, whole(changed))) || e != api.OK && e != api.ErrCorrupt {
				t.Errorf("byte %d as %d: %q %v %d", at, other, s, w, e)
			}
		}
	}
	for _, c := range []struct {
		from string
		at   int
		to   byte
	}{{"\x01\x37", 0, 2}, {"\x01b\x02\x01", 3, 2}, {"\x01b\x02\x01", 2, 4}, {"\x01b\x02\x01", 2, 0}, {"\x01b\x02\x01", 2, 9}, {"\x04main", 1, 'M'}, {"\x01\xc8", 1, 201}, {"\x01\xc8", 0, 2}} {
		changed := body()
		changed[bytes.LastIndex(changed, []byte(c.from))+c.at] = c.to
		if bytes.Equal(changed, body()) {
			t.Errorf("%q is not there", c.from)
		}
		refused(c.from, whole(changed), api.ErrCorrupt)
	}
}

// P21.3, T6: with some of 32 bits turned that follow each other, nothing is taken.
func TestBursts(t *testing.T) {
	b := whole(body())
	x := uint64(9)
	for from := range len(b) * 8 {
		for k := range 36 {
			x ^= x << 13
			x ^= x >> 7
			x ^= x << 17
			turned := uint32(x >> 9)
			if k < 32 {
				turned = 1<<k | 1
			}
			c := slices.Clone(b)
			for i := range 32 {
				if at := from + i; turned>>i&1 == 1 && at < len(c)*8 {
					c[at/8] ^= 1 << (at % 8)
				}
			}
			if bytes.Equal(b, c) {
				continue
			}
			if s, w, e := Take(c); e != api.ErrShort && e != api.ErrCorrupt || s != "" || len(w.L) != 0 {
				t.Fatalf("from bit %d, %x: %q %v %d", from, turned, s, w, e)
			}
		}
	}
}

// P21.3: what was put is taken.
func TestThereAndBack(t *testing.T) {
	for n := range 200 {
		mk := samples.New(n)
		s, p := mk.Program()
		w := tree.New()
		for range 12 {
			next, _ := tree.Go(p, w, mk.Pick(9))
			next, _ = tree.Append(next, mk.Pick(9))
			name := []string{"b", "c", "d"}[mk.Pick(3)]
			if mk.Pick(2) == 0 {
				next, _ = tree.Input(p, next, name, mk.Pick(9))
			} else {
				next, _ = tree.Fork(p, next, name, []string{"v0", "v1", "v2"}[mk.Pick(3)], mk.Value(1+mk.Pick(3)))
			}
			w = next
		}
		b, e := Put(s, w)
		if e != api.OK {
			t.Fatalf("%q %v: %d", s, w, e)
		}
		got, other, e := Take(b)
		if e != api.OK || got != s || !same(other, w) {
			t.Fatalf("%q %v: %q %v %d", s, w, got, other, e)
		}
		if q, _, _ := check.Source(got); !tree.May(q, other) {
			t.Fatal("not a wood")
		}
	}
}
