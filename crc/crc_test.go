package crc

import (
	"bytes"
	"hash/crc32"
	"slices"
	"testing"
)

// plain is P20.1 by its words.
func plain(crc uint32, b []byte) uint32 {
	r := ^crc
	for _, c := range b {
		r ^= uint32(c)
		for range 8 {
			odd := r%2 == 1
			if r /= 2; odd {
				r ^= 0xEDB88320
			}
		}
	}
	return ^r
}

func some(n int) []byte {
	out := make([]byte, n)
	x := uint32(n)
	for i := range out {
		x = x*1664525 + 1013904223
		out[i] = byte(x >> 16)
	}
	return out
}

// P20.1
func TestOf(t *testing.T) {
	for s, want := range map[string]uint32{"": 0, "123456789": 0xCBF43926, "a": 0xE8B7BE43, "\x00": 0xD202EF8D, "\xff\xff\xff\xff": 0xFFFFFFFF} {
		if got := Of([]byte(s)); got != want {
			t.Errorf("%q: %x", s, got)
		}
	}
	for n := range 300 {
		b := some(n)
		if got := Of(b); got != plain(0, b) || got != crc32.ChecksumIEEE(b) {
			t.Error(n, got)
		}
		if got := Go(uint32(n)*2654435761, b); got != plain(uint32(n)*2654435761, b) {
			t.Error(n, got)
		}
		for _, cut := range []int{0, n / 2, n} {
			if Go(Of(b[:cut]), b[cut:]) != Of(b) {
				t.Error("in two pieces:", n, cut)
			}
		}
	}
	if Go(7, nil) != 7 {
		t.Error("of no bytes it stays")
	}
}

// P20.2
func TestPutTake(t *testing.T) {
	if got := Put([]byte("123456789")); !bytes.Equal(got, []byte("123456789\x26\x39\xf4\xcb")) {
		t.Errorf("%x", got)
	}
	if got := Put(nil); !bytes.Equal(got, make([]byte, 4)) {
		t.Errorf("%x", got)
	}
	for n := range 60 {
		b := some(n)
		got, ok := Take(Put(b))
		if !ok || !bytes.Equal(got, b) {
			t.Error(n, got, ok)
		}
	}
	for _, b := range [][]byte{nil, {0}, {0, 0, 0}, {0, 0, 0, 1}, {1, 0, 0, 0, 0}, []byte("123456789\xcb\xf4\x39\x26"), []byte("12345678\x26\x39\xf4\xcb"), Put([]byte("abc"))[1:], Put([]byte("abc"))[:6]} {
		if got, ok := Take(b); ok || len(got) != 0 {
			t.Errorf("%x: %x", b, got)
		}
	}
	if got, ok := Take([]byte{0, 0, 0, 0}); !ok || len(got) != 0 {
		t.Error("nothing, with its check")
	}
}

// R7
func TestOwn(t *testing.T) {
	room := some(20)
	before := slices.Clone(room)
	put := Put(room[:5])
	put[0]++
	if !bytes.Equal(room, before) {
		t.Error("Put changed what was handed in, or the room behind it")
	}
	put = Put(before)
	got, _ := Take(put)
	got[0]++
	if got = append(got, 9); !bytes.Equal(put, Put(before)) {
		t.Error("Take shares with what was handed in")
	}
}

// P20.3: other bits within 32 that follow each other.
func TestBursts(t *testing.T) {
	x := uint64(5)
	for _, n := range []int{0, 1, 5, 40} {
		b := Put(some(n))
		for from := range len(b) * 8 {
			for k := range 40 {
				x ^= x << 13
				x ^= x >> 7
				x ^= x << 17
				turned := uint32(x >> 11)
				if k < 32 {
					turned = 1<<k | 1
				}
				c := slices.Clone(b)
				for i := range 32 {
					if at := from + i; turned>>i&1 == 1 && at < len(c)*8 {
						c[at/8] ^= 1 << (at % 8)
					}
				}
				if _, ok := Take(c); ok && !bytes.Equal(b, c) {
					t.Fatalf("%x taken as %x", c, b)
				}
			}
		}
	}
}
