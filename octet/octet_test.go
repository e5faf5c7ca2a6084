package octet_test

import (
	"bytes"
	"fmt"
	"math"
	"strings"
	"testing"

	"sealwax/api"
	"sealwax/octet"
)

// sample is n bytes, unlike ones for unlike seeds, with room behind their end.
func sample(n, seed int) []byte {
	b := make([]byte, n+16)
	for i := range b {
		b[i] = byte(i*i*7 + i*31 + seed*101 + seed)
	}
	return b[:n]
}

// whole is a list with the room behind its end.
func whole(b []byte) []byte { return b[:cap(b)] }

// hold calls f, which answers a list made of the arguments, and tells whether one of these was changed, or is shared.
func hold(t *testing.T, name string, f func() []byte, args ...[]byte) {
	t.Helper()
	var before [][]byte
	for _, a := range args {
		before = append(before, bytes.Clone(whole(a)))
	}
	first := f()
	want := bytes.Clone(first)
	second := f()
	for i := range whole(first) {
		whole(first)[i] ^= 255
	}
	for i, a := range args {
		if !bytes.Equal(whole(a), before[i]) {
			t.Errorf("%s: argument %d was changed, or is shared", name, i)
		}
	}
	for _, a := range args {
		for i := range whole(a) {
			whole(a)[i] ^= 255
		}
	}
	if !bytes.Equal(second, want) {
		t.Errorf("%s: an answer hangs on another one, or on what was handed in: %x, want %x", name, second, want)
	}
	for _, a := range args {
		for i := range whole(a) {
			whole(a)[i] ^= 255
		}
	}
}

// wants tells of an answer that is not what it must be; beside an error it must be empty.
func wants(t *testing.T, name string, got []byte, e api.Errno, want []byte, wantE api.Errno) {
	t.Helper()
	if e != wantE || !bytes.Equal(got, want) {
		t.Errorf("%s: %x, error %d; want %x, error %d", name, got, e, want, wantE)
	}
}

// P1.1: Equal.
func TestEqual(t *testing.T) {
	if !octet.Equal(nil, nil) || !octet.Equal(nil, []byte{}) || !octet.Equal([]byte{}, nil) {
		t.Error("none are not equal to none")
	}
	for _, n := range []int{1, 2, 3, 8, 31, 32, 33, 64, 257} {
		a := sample(n, 1)
		if !octet.Equal(a, bytes.Clone(a)) || !octet.Equal(a, a) {
			t.Error("not equal to itself:", n)
		}
		for i := range n { // every place, every bit: none may be passed over, none may make up for another one
			for bit := range 8 {
				b := bytes.Clone(a)
				b[i] ^= 1 << bit
				if octet.Equal(a, b) || octet.Equal(b, a) {
					t.Fatal("equal in spite of byte, bit:", n, i, bit)
				}
			}
		}
		if octet.Equal(a, a[:n-1]) || octet.Equal(a[:n-1], a) || octet.Equal(a, nil) || octet.Equal(nil, a) {
			t.Error("equal to fewer:", n)
		}
	}
	for x := 1; x < 256; x++ { // two differences never make up for one another
		for y := 1; y < 256; y++ {
			if octet.Equal([]byte{0, 5, 0}, []byte{byte(x), 5, byte(y)}) {
				t.Fatal("equal in spite of two bytes:", x, y)
			}
		}
	}
	if octet.Equal([]byte{1, 1}, []byte{2, 2}) || octet.Equal([]byte{1, 2}, []byte{2, 1}) || octet.Equal([]byte{0}, []byte{0, 0}) || octet.Equal(nil, []byte{0}) {
		t.Error("unlike ones are equal")
	}
}

// P1.1: Xor.
func TestXor(t *testing.T) {
	for a := range 256 {
		for b := range 256 {
			x, e := octet.Xor([]byte{byte(a), 9}, []byte{byte(b), 9})
			if e != api.OK || len(x) != 2 || x[0] != byte(a^b) || x[1] != 0 {
				t.Fatal("Xor:", a, b, x, e)
			}
		}
	}
	x, e := octet.Xor(nil, []byte{})
	wants(t, "of none", x, e, nil, api.OK)
	for _, c := range [][2]int{{0, 1}, {1, 0}, {7, 8}, {8, 7}, {100, 1}} {
		x, e := octet.Xor(sample(c[0], 1), sample(c[1], 2))
		wants(t, fmt.Sprint("of unlike ones ", c), x, e, nil, api.ErrArg)
	}
	a, b := sample(40, 1), sample(40, 2)
	hold(t, "Xor", func() []byte { x, _ := octet.Xor(a, b); return x }, a, b)
}

// P1.1: Pick.
func TestPick(t *testing.T) {
	for _, n := range []int{0, 1, 2, 31, 32, 300} {
		a, b := sample(n, 1), sample(n, 2)
		x, e := octet.Pick(0, a, b)
		wants(t, fmt.Sprint("Pick 0 of ", n), x, e, a, api.OK)
		x, e = octet.Pick(1, a, b)
		wants(t, fmt.Sprint("Pick 1 of ", n), x, e, b, api.OK)
		hold(t, "Pick 0", func() []byte { x, _ := octet.Pick(0, a, b); return x }, a, b)
		hold(t, "Pick 1", func() []byte { x, _ := octet.Pick(1, a, b); return x }, a, b)
	}
	for _, bit := range []int{-1, 2, 3, 255, 256, 257, -255, -256, 1 << 32, 1<<32 + 1, math.MaxInt, math.MinInt} {
		for _, n := range []int{0, 1, 5} {
			x, e := octet.Pick(bit, sample(n, 1), sample(n, 2))
			wants(t, fmt.Sprint("Pick by ", bit), x, e, nil, api.ErrArg)
		}
	}
	for _, bit := range []int{0, 1, 2} {
		for _, c := range [][2]int{{0, 1}, {1, 0}, {4, 5}, {5, 4}} {
			x, e := octet.Pick(bit, sample(c[0], 1), sample(c[1], 2))
			wants(t, fmt.Sprint("Pick of unlike ones ", bit, c), x, e, nil, api.ErrArg)
		}
	}
}

// P1.1: Join.
func TestJoin(t *testing.T) {
	for _, l := range [][][]byte{nil, {}, {nil}, {{}, nil, {}}} {
		if len(octet.Join(l...)) != 0 {
			t.Error("Join of none:", l)
		}
	}
	if x := octet.Join([]byte{3}, []byte{1, 2}, nil, []byte{0}, []byte{}, []byte{3}); !bytes.Equal(x, []byte{3, 1, 2, 0, 3}) {
		t.Error("Join:", x)
	}
	a := sample(5, 1)
	if x := octet.Join(a, a, a[:2]); !bytes.Equal(x, bytes.Join([][]byte{a, a, a[:2]}, nil)) {
		t.Error("Join of one that stands there often:", x)
	}
	b, none := sample(3, 2), sample(0, 3)
	hold(t, "Join", func() []byte { return octet.Join(a, none, b) }, a, none, b)
	hold(t, "Join of one", func() []byte { return octet.Join(a) }, a)
	hold(t, "Join of one and none", func() []byte { return octet.Join(nil, a, none) }, a, none)
	l := [][]byte{a, b}
	octet.Join(l...)
	if len(l) != 2 || &l[0][0] != &a[0] || &l[1][0] != &b[0] || len(l[0]) != 5 || len(l[1]) != 3 {
		t.Error("Join has changed the list that was handed in")
	}
}

// P1.2: Hex.
func TestHex(t *testing.T) {
	if octet.Hex(nil) != "" || octet.Hex([]byte{}) != "" || octet.Hex([]byte{0, 171}) != "00ab" {
		t.Error("Hex")
	}
	var all []byte
	var want strings.Builder
	for c := range 256 {
		all = append(all, byte(c))
		fmt.Fprintf(&want, "%02x", c)
		if s := octet.Hex([]byte{byte(c)}); s != fmt.Sprintf("%02x", c) {
			t.Error("Hex:", c, s)
		}
	}
	if s := octet.Hex(all); s != want.String() {
		t.Error("Hex of all:", s)
	}
	if octet.Hex(all); all[17] != 17 || len(all) != 256 {
		t.Error("Hex has changed what was handed in")
	}
}

// P1.2: Unhex. All texts of two bytes: those that Hex tells are read, the others are refused.
func TestUnhex(t *testing.T) {
	told := map[string]int{}
	for c := range 256 {
		told[fmt.Sprintf("%02x", c)] = c + 1
	}
	for i := range 256 {
		for k := range 256 {
			s := string([]byte{byte(i), byte(k)})
			for _, where := range []string{s, "00" + s, s + "00"} {
				b, e := octet.Unhex(where)
				if told[s] == 0 {
					wants(t, fmt.Sprintf("Unhex %q", where), b, e, nil, api.ErrForm)
					continue
				}
				want := byte(told[s] - 1)
				if e != api.OK || len(b) != len(where)/2 || b[strings.LastIndex(where, s)/2] != want {
					t.Fatalf("Unhex %q: %x, error %d", where, b, e)
				}
			}
		}
	}
	b, e := octet.Unhex("")
	wants(t, "Unhex of none", b, e, nil, api.OK)
	for _, s := range []string{"0", "f", "000", "00a", "0A", "AB", "0x00", " 00", "00 ", "0 0", "00\n", "é", "éé", "０", "-1", "+1", "\x00\x00", "00fg", "g000", "0000g"} {
		b, e := octet.Unhex(s)
		wants(t, fmt.Sprintf("Unhex %q", s), b, e, nil, api.ErrForm)
	}
	hold(t, "Unhex", func() []byte { b, _ := octet.Unhex("00ff10"); return b })
}

// P1.3: Number.
func TestNumber(t *testing.T) {
	for _, c := range []struct {
		b    []byte
		want uint64
	}{
		{nil, 0},
		{[]byte{}, 0},
		{[]byte{0}, 0},
		{[]byte{255}, 255},
		{[]byte{2, 1}, 258},
		{[]byte{0, 0, 1}, 1 << 16},
		{[]byte{5, 0, 0, 0, 0, 0, 0, 0}, 5},
		{[]byte{1, 2, 3, 4, 5, 6, 7, 8}, 0x0807060504030201},
		{[]byte{0, 0, 0, 0, 0, 0, 0, 128}, 1 << 63},
		{bytes.Repeat([]byte{255}, 8), math.MaxUint64},
	} {
		if n, e := octet.Number(c.b); n != c.want || e != api.OK {
			t.Error("Number:", c.b, n, e)
		}
	}
	for _, size := range []int{9, 10, 16, 1000} {
		for _, b := range [][]byte{make([]byte, size), sample(size, 1)} {
			if n, e := octet.Number(b); n != 0 || e != api.ErrLong {
				t.Error("Number of", size, "bytes:", n, e)
			}
		}
	}
	b := sample(8, 1)
	before := bytes.Clone(whole(b))
	if octet.Number(b); !bytes.Equal(whole(b), before) {
		t.Error("Number has changed what was handed in")
	}
}

// P1.3: Bytes, on both sides of what each size has room for.
func TestBytes(t *testing.T) {
	for size := range 8 {
		over := uint64(1) << (8 * size)
		b, e := octet.Bytes(over, size)
		wants(t, fmt.Sprint("the least too great for ", size), b, e, nil, api.ErrRange)
		b, e = octet.Bytes(math.MaxUint64, size)
		wants(t, fmt.Sprint("the greatest for ", size), b, e, nil, api.ErrRange)
		b, e = octet.Bytes(over-1, size)
		wants(t, fmt.Sprint("the greatest that has room in ", size), b, e, bytes.Repeat([]byte{255}, size), api.OK)
	}
	for _, c := range []struct {
		n    uint64
		size int
		want []byte
	}{
		{0, 0, nil},
		{0, 1, []byte{0}},
		{258, 2, []byte{2, 1}},
		{258, 4, []byte{2, 1, 0, 0}},
		{1 << 63, 8, []byte{0, 0, 0, 0, 0, 0, 0, 128}},
		{0x0807060504030201, 8, []byte{1, 2, 3, 4, 5, 6, 7, 8}},
		{math.MaxUint64, 8, bytes.Repeat([]byte{255}, 8)},
	} {
		b, e := octet.Bytes(c.n, c.size)
		wants(t, fmt.Sprint("Bytes of ", c.n, c.size), b, e, c.want, api.OK)
	}
	for _, size := range []int{-1, -8, 9, 10, 16, 256, 264, 1 << 32, math.MaxInt, math.MinInt, math.MinInt + 1} {
		for _, n := range []uint64{0, 1, 256, math.MaxUint64} {
			b, e := octet.Bytes(n, size)
			wants(t, fmt.Sprint("Bytes in ", size), b, e, nil, api.ErrArg)
		}
	}
	hold(t, "Bytes", func() []byte { b, _ := octet.Bytes(77, 5); return b })
}

// P1.4: what is told is read back; what was mixed in is taken out.
func TestBack(t *testing.T) {
	for _, n := range []int{0, 1, 2, 7, 32, 256, 5000} {
		a, k := sample(n, 1), sample(n, 2)
		b, e := octet.Unhex(octet.Hex(a))
		wants(t, fmt.Sprint("Unhex of Hex ", n), b, e, a, api.OK)
		once, e := octet.Xor(a, k)
		if e != api.OK || n > 0 && bytes.Equal(once, a) {
			t.Error("Xor:", n, e)
		}
		twice, e := octet.Xor(once, k)
		wants(t, fmt.Sprint("Xor twice ", n), twice, e, a, api.OK)
	}
	for size := range 9 {
		for shift := range 64 {
			for _, n := range []uint64{1 << shift, 1<<shift - 1, 0x9e3779b97f4a7c15 >> shift} {
				b, e := octet.Bytes(n, size)
				if e == api.ErrRange && size < 8 && n>>(8*size) != 0 {
					continue
				}
				if back, backE := octet.Number(b); e != api.OK || backE != api.OK || back != n || len(b) != size {
					t.Fatal("Number of Bytes:", n, size, b, back, e, backE)
				}
			}
		}
	}
}
