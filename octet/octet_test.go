package octet

import (
	"bytes"
	"encoding/hex"
	"math"
	"strings"
	"testing"

	"ringroad/api"
)

// values are numbers at which something about bytes turns, and some whose bytes are all different.
var values = []uint64{
	0, 1, 2, 127, 128, 255, 256, 257, 258, 65535, 65536, 1<<24 - 1, 1 << 24, 1<<31 - 1, 1 << 31, 1<<32 - 1, 1 << 32,
	api.Most, api.Far, api.None, 1<<56 - 1, 1 << 56, 1<<63 - 1, 1 << 63, 1<<63 + 1, math.MaxUint64 - 1, math.MaxUint64,
	0x0102030405060708, 0xfedcba9876543210, 0x8090a0b0c0d0e0f0,
}

// counts are how many bytes are put or asked for, wrong ones too.
var counts = []int{math.MinInt, -8, -2, -1, 0, 1, 2, 3, 4, 5, 6, 7, 8, 9, 10, 16, 64, 256, math.MaxInt}

// starts are what stands ahead of the bytes that are put.
var starts = [][]byte{nil, {}, {0}, {7}, {1, 2, 3}, {255, 0, 255}, bytes.Repeat([]byte{9, 8}, 20)}

// lowest says by division what the lowest n bytes of v are.
func lowest(n int, v uint64) []byte {
	out := make([]byte, max(0, min(n, 8)))
	for i := len(out) - 1; i >= 0; i-- {
		out[i] = byte(v % 256)
		v /= 256
	}
	return out
}

// number says by multiplication which number bytes are.
func number(b []byte) uint64 {
	v := uint64(0)
	for _, x := range b {
		v = v*256 + uint64(x)
	}
	return v
}

func TestPut(t *testing.T) {
	for _, c := range []struct {
		b    []byte
		n    int
		v    uint64
		want []byte
	}{
		{nil, 2, 258, []byte{1, 2}},
		{nil, 0, 258, nil},
		{nil, 1, 258, []byte{2}},
		{[]byte{7}, 3, 258, []byte{7, 0, 1, 2}},
		{[]byte{7}, -1, 258, []byte{7}},
		{nil, math.MinInt, 1, nil},
		{nil, 8, 0x0102030405060708, []byte{1, 2, 3, 4, 5, 6, 7, 8}},
		{nil, 7, 0x0102030405060708, []byte{2, 3, 4, 5, 6, 7, 8}},
		{nil, 9, 0x0102030405060708, []byte{1, 2, 3, 4, 5, 6, 7, 8}},
		{[]byte{9, 9}, math.MaxInt, 1, []byte{9, 9, 0, 0, 0, 0, 0, 0, 0, 1}},
		{nil, 8, math.MaxUint64, []byte{255, 255, 255, 255, 255, 255, 255, 255}},
		{nil, 4, 1 << 63, []byte{0, 0, 0, 0}},
	} {
		if got := Put(c.b, c.n, c.v); !bytes.Equal(got, c.want) {
			t.Errorf("P2.1: Put(%v, %d, %d): %v, want %v", c.b, c.n, c.v, got, c.want)
		}
	}
	for _, b := range starts {
		for _, n := range counts {
			for _, v := range values {
				want := append(bytes.Clone(b), lowest(n, v)...)
				if got := Put(b, n, v); !bytes.Equal(got, want) {
					t.Errorf("P2.1: Put(%v, %d, %d): %v, want %v", b, n, v, got, want)
				}
			}
		}
	}
}

func TestGet(t *testing.T) {
	for _, c := range []struct {
		b    []byte
		n    int
		v    uint64
		rest []byte
		code api.Code
	}{
		{[]byte{1, 2, 3}, 2, 258, []byte{3}, api.OK},
		{[]byte{1, 2}, 2, 258, nil, api.OK},
		{[]byte{1, 2}, 0, 0, []byte{1, 2}, api.OK},
		{[]byte{1, 2}, 3, 0, nil, api.Short},
		{[]byte{0, 5}, 1, 0, []byte{5}, api.OK},
		{nil, 0, 0, nil, api.OK},
		{nil, 1, 0, nil, api.Short},
		{nil, 8, 0, nil, api.Short},
		{nil, 9, 0, nil, api.Arg},
		{nil, -1, 0, nil, api.Arg},
		{[]byte{1, 2, 3, 4, 5, 6, 7}, 8, 0, nil, api.Short},
		{[]byte{1, 2, 3, 4, 5, 6, 7, 8}, 8, 0x0102030405060708, nil, api.OK},
		{[]byte{1, 2, 3, 4, 5, 6, 7, 8, 9}, 8, 0x0102030405060708, []byte{9}, api.OK},
		{[]byte{1, 2, 3, 4, 5, 6, 7, 8, 9}, 9, 0, nil, api.Arg},
		{[]byte{1, 2, 3, 4, 5, 6, 7, 8, 9}, -1, 0, nil, api.Arg},
		{[]byte{255, 255, 255, 255, 255, 255, 255, 255}, 8, math.MaxUint64, nil, api.OK},
		{[]byte{128, 0, 0, 0, 0, 0, 0, 0}, 8, 1 << 63, nil, api.OK},
	} {
		v, rest, code := Get(c.b, c.n)
		if v != c.v || !bytes.Equal(rest, c.rest) || code != c.code {
			t.Errorf("P2.1: Get(%v, %d): %d %v %d, want %d %v %d", c.b, c.n, v, rest, code, c.v, c.rest, c.code)
		}
	}
}

func TestGetEveryLength(t *testing.T) {
	whole := []byte{200, 2, 255, 0, 128, 6, 77, 8, 99, 10, 11, 12}
	for size := range len(whole) + 1 {
		b := whole[:size:size]
		for _, n := range counts {
			v, rest, code := Get(b, n)
			switch {
			case n < 0 || n > 8:
				if v != 0 || len(rest) != 0 || code != api.Arg {
					t.Errorf("P2.1: Get(%v, %d): %d %v %d, want Arg", b, n, v, rest, code)
				}
			case size < n:
				if v != 0 || len(rest) != 0 || code != api.Short {
					t.Errorf("P2.1: Get(%v, %d): %d %v %d, want Short", b, n, v, rest, code)
				}
			case v != number(b[:n]) || !bytes.Equal(rest, b[n:]) || code != api.OK:
				t.Errorf("P2.1: Get(%v, %d): %d %v %d", b, n, v, rest, code)
			}
		}
	}
}

// spared is b with spare room behind it, and the whole of that memory.
func spared(b []byte) (part, whole []byte) {
	whole = append(bytes.Clone(b), bytes.Repeat([]byte{0xa5}, 32)...)
	return whole[:len(b)], whole
}

func scribble(b []byte) {
	b = b[:cap(b)]
	for i := range b {
		b[i] ^= 0xff
	}
}

func TestPutMemory(t *testing.T) {
	for _, start := range starts {
		for _, n := range counts {
			b, whole := spared(start)
			was := bytes.Clone(whole)
			got := Put(b, n, 0x0102030405060708)
			if !bytes.Equal(whole, was) {
				t.Errorf("P2.1: Put(%v, %d) changed what it was handed, or its spare room: %v", start, n, whole)
			}
			scribble(got)
			if !bytes.Equal(whole, was) {
				t.Errorf("P2.1: Put(%v, %d): the answer shares memory with the argument", start, n)
			}
			got = Put(b, n, 0x0102030405060708)
			want := bytes.Clone(got)
			scribble(whole)
			if !bytes.Equal(got, want) {
				t.Errorf("P2.1: Put(%v, %d): the argument written over, the answer is %v, was %v", start, n, got, want)
			}
		}
	}
}

// Two that are put behind the same bytes don't meet.
func TestPutTwice(t *testing.T) {
	b := Put(nil, 2, 258)
	one, two := Put(b, 1, 3), Put(b, 1, 4)
	if !bytes.Equal(one, []byte{1, 2, 3}) || !bytes.Equal(two, []byte{1, 2, 4}) || !bytes.Equal(b, []byte{1, 2}) {
		t.Errorf("P2.1: put behind the same: %v %v %v", b, one, two)
	}
}

func TestGetMemory(t *testing.T) {
	for _, start := range starts {
		for _, n := range counts {
			b, whole := spared(start)
			was := bytes.Clone(whole)
			v, rest, _ := Get(b, n)
			want := bytes.Clone(rest)
			if !bytes.Equal(whole, was) {
				t.Errorf("P2.1: Get(%v, %d) changed what it was handed, or its spare room: %v", start, n, whole)
			}
			scribble(whole)
			if !bytes.Equal(rest, want) {
				t.Errorf("P2.1: Get(%v, %d): the argument written over, the rest is %v, was %v", start, n, rest, want)
			}
			scribble(whole)
			scribble(rest)
			_ = append(rest, 1, 2, 3)
			if !bytes.Equal(whole, was) {
				t.Errorf("P2.1: Get(%v, %d) = %d: the rest shares memory with the argument", start, n, v)
			}
		}
	}
}

func TestHex(t *testing.T) {
	for _, c := range []struct {
		b    []byte
		want string
	}{
		{nil, ""},
		{[]byte{}, ""},
		{[]byte{0}, "00"},
		{[]byte{10}, "0a"},
		{[]byte{160}, "a0"},
		{[]byte{1, 35, 69, 103, 137, 171, 205, 239}, "0123456789abcdef"},
		{[]byte{255, 0, 16, 1}, "ff001001"},
	} {
		if got := Hex(c.b); got != c.want {
			t.Errorf("P2.2: Hex(%v): %q, want %q", c.b, got, c.want)
		}
		if got, code := Unhex(c.want); !bytes.Equal(got, c.b) || code != api.OK {
			t.Errorf("P2.2: Unhex(%q): %v %d, want %v", c.want, got, code, c.b)
		}
	}
	var all []byte
	for x := range 256 {
		all = append(all, byte(x))
	}
	if got, want := Hex(all), hex.EncodeToString(all); got != want {
		t.Errorf("P2.2: Hex of every byte: %q", got)
	}
	if got, code := Unhex(hex.EncodeToString(all)); !bytes.Equal(got, all) || code != api.OK {
		t.Errorf("P2.2: Unhex of every byte: %v %d", got, code)
	}
}

func TestHexMemory(t *testing.T) {
	for _, start := range starts {
		b, whole := spared(start)
		was := bytes.Clone(whole)
		s := Hex(b)
		want := hex.EncodeToString(b)
		if !bytes.Equal(whole, was) {
			t.Errorf("P2.2: Hex(%v) changed what it was handed, or its spare room: %v", start, whole)
		}
		scribble(whole)
		if s != want {
			t.Errorf("P2.2: Hex(%v): the argument written over, the text is %q, was %q", start, s, want)
		}
		one, _ := Unhex(want)
		two, _ := Unhex(want)
		scribble(one)
		if !bytes.Equal(two, start) {
			t.Errorf("P2.2: Unhex(%q): two answers share memory", want)
		}
	}
}

// Every text of two bytes, held against what the library takes, but for capital letters.
func TestUnhexTwoBytes(t *testing.T) {
	for x := range 1 << 16 {
		s := string([]byte{byte(x >> 8), byte(x)})
		want, err := hex.DecodeString(s)
		got, code := Unhex(s)
		if err != nil || strings.ToLower(s) != s {
			if len(got) != 0 || code != api.Malformed {
				t.Errorf("P2.2: Unhex(%q): %v %d", s, got, code)
			}
		} else if !bytes.Equal(got, want) || code != api.OK {
			t.Errorf("P2.2: Unhex(%q): %v %d, want %v", s, got, code, want)
		}
	}
}

func TestUnhexWrong(t *testing.T) {
	wrong := []string{
		"0", "f", "g", " ", "000", "abc", "0001020", // of odd length
		"0A", "A0", "FF", "aB", "00fF", "0F00", // capital letters
		"0x", "0x00", "zz", "0g", "g0", "0`", "0/", "0:", "0@", "-1", "+1", "0.", "0_", "1_00", // signs that are no digits
		" 00", "00 ", " 00 ", "00 00", "00\n", "00\r\n", "\t00 ", "00\x00\x00", "\x00\x00",
		"é", "0é", "0é0", "éé", "0é00", "00é", "\u0661\u0661", "\uff11", "\uff10\uff10", "\u0100", "\u0130", "\u0161", "\U00010030",
		"\xff", "\xff\xff", "0\xff", "00\xff\xff", "\x80\x80", "\xef\xbf\xbd", "0\xef\xbf\xbd", "\ufeff0",
		strings.Repeat("00", 1000) + "0", strings.Repeat("00", 1000) + "0G", "Z" + strings.Repeat("0", 1999),
	}
	for _, s := range wrong {
		if got, code := Unhex(s); len(got) != 0 || code != api.Malformed {
			t.Errorf("P2.2: Unhex(%q): %v %d, want Malformed", s, got, code)
		}
	}
}

func TestPutGet(t *testing.T) {
	tails := [][]byte{nil, {0}, {1, 2, 3}, bytes.Repeat([]byte{255}, 9)}
	for n := range 9 {
		for _, v := range values {
			for _, tail := range tails {
				put := Put(nil, n, v)
				if len(put) != n {
					t.Fatalf("P2.3: Put(nothing, %d, %d): %v", n, v, put)
				}
				want := v
				if n < 8 {
					want = v % (1 << (8 * n))
				}
				got, rest, code := Get(append(put, tail...), n)
				if got != want || !bytes.Equal(rest, tail) || code != api.OK {
					t.Errorf("P2.3: %d, put by %d bytes: %d %v %d, want %d %v", v, n, got, rest, code, want, tail)
				}
			}
		}
	}
}

// Several that are put one behind the other are got in the same order, by way of their digits too.
func TestPutGetSeveral(t *testing.T) {
	var b []byte
	for i, v := range values {
		b = Put(b, i%9, v)
	}
	b, code := Unhex(Hex(b))
	if code != api.OK {
		t.Fatalf("P2.3: Unhex of Hex: %d", code)
	}
	for i, v := range values {
		var got uint64
		got, b, code = Get(b, i%9)
		if want := number(lowest(i%9, v)); got != want || code != api.OK {
			t.Errorf("P2.3: number %d of several: %d %d, want %d", i, got, code, want)
		}
	}
	if len(b) != 0 {
		t.Errorf("P2.3: behind all that was put there is %v", b)
	}
}

func TestTooManyPutGet(t *testing.T) {
	for _, v := range values {
		if got, rest, code := Get(Put(nil, math.MaxInt, v), 8); got != v || len(rest) != 0 || code != api.OK {
			t.Errorf("P2.3: %d, put by more than 8 bytes: %d %v %d", v, got, rest, code)
		}
		if got, rest, code := Get(Put(nil, -1, v), 0); got != 0 || len(rest) != 0 || code != api.OK {
			t.Errorf("P2.3: %d, put by fewer than 0 bytes: %d %v %d", v, got, rest, code)
		}
	}
}
