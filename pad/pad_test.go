package pad_test

import (
	"bytes"
	"encoding/hex"
	"math"
	"math/rand/v2"
	"slices"
	"strings"
	"testing"

	"sealwax/api"
	"sealwax/pad"
)

const (
	most = 4095 // bytes that can be padded, by the document's words
	top  = 4096 // the greatest bucket
)

// lengths are those next to each bucket and to each half of one, and some others.
func lengths() []int {
	out := []int{0, 1, 2, 3, 17, 100, 300, 3000}
	for n := 32; n <= top; n *= 2 {
		out = append(out, n-2, n-1, n, n+1, n+2, n+n/2)
	}
	return slices.DeleteFunc(out, func(n int) bool { return n > most })
}

// bucket is a length's bucket: the first one, doubled until it is above.
func bucket(n int) int {
	out := 64
	for out <= n {
		out *= 2
	}
	return out
}

// padded is what Pad must tell.
func padded(b []byte) []byte {
	return slices.Concat(b, []byte{0x80}, make([]byte, bucket(len(b))-len(b)-1))
}

// unpadded is what Unpad must tell, and whether there is such a thing: of all that could have been padded it holds the one against the bytes.
func unpadded(b []byte) ([]byte, bool) {
	cut := bytes.TrimRight(b, "\x00")
	if len(cut) == 0 || len(cut) > top {
		return nil, false
	}
	cut = cut[:len(cut)-1]
	return cut, bytes.Equal(padded(cut), b)
}

// holdsUnpad holds Unpad against what it must tell, and answers whether it is not refused.
func holdsUnpad(t *testing.T, b []byte, what ...any) bool {
	t.Helper()
	want, good := unpadded(b)
	e := api.ErrPad
	if good {
		e = api.OK
	} else {
		want = nil
	}
	if got, err := pad.Unpad(b); err != e || !bytes.Equal(got, want) {
		t.Fatalf("%v: Unpad of %d bytes, %.20x: %d bytes, %.20x, error %d, want %d bytes, %.20x, error %d", what, len(b), b, len(got), got, err, len(want), want, e)
	}
	return good
}

// chance is n bytes out of chance, with room behind their end that is not nought.
func chance(r *rand.Rand, n int) []byte {
	b := make([]byte, n+5000)
	for i := range b {
		b[i] = byte(r.Uint32()) | 1<<(r.Uint32()%8)
	}
	return b[:n]
}

// whole is a list with the room behind its end.
func whole(b []byte) []byte { return b[:cap(b)] }

// flip changes each byte of a list, and of the room behind it.
func flip(b []byte) {
	for i := range whole(b) {
		whole(b)[i] ^= 255
	}
}

// kinds are some lists of n bytes, those too that look like what stands behind what was padded.
func kinds(r *rand.Rand, n int) [][]byte {
	out := [][]byte{chance(r, n), make([]byte, n), bytes.Repeat([]byte{0x80}, n), bytes.Repeat([]byte{0xff}, n)}
	if n > 1 {
		head := chance(r, n-2)
		out = append(out, slices.Concat(head, []byte{0x80, 0}), slices.Concat(head, []byte{0, 0x80}))
	}
	return out
}

// P14.1: buckets that were worked out by hand.
func TestKnownBuckets(t *testing.T) {
	for _, c := range []struct {
		n, want int
		e       api.Errno
	}{
		{0, 64, api.OK}, {1, 64, api.OK}, {62, 64, api.OK}, {63, 64, api.OK},
		{64, 128, api.OK}, {65, 128, api.OK}, {127, 128, api.OK},
		{128, 256, api.OK}, {255, 256, api.OK},
		{256, 512, api.OK}, {511, 512, api.OK},
		{512, 1024, api.OK}, {1023, 1024, api.OK},
		{1024, 2048, api.OK}, {2047, 2048, api.OK},
		{2048, 4096, api.OK}, {4094, 4096, api.OK}, {4095, 4096, api.OK},
		{4096, 0, api.ErrLong}, {4097, 0, api.ErrLong}, {8191, 0, api.ErrLong}, {8192, 0, api.ErrLong}, {1 << 40, 0, api.ErrLong}, {math.MaxInt32, 0, api.ErrLong}, {math.MaxInt - 1, 0, api.ErrLong}, {math.MaxInt, 0, api.ErrLong},
		{-1, 0, api.ErrArg}, {-2, 0, api.ErrArg}, {-64, 0, api.ErrArg}, {-4096, 0, api.ErrArg}, {math.MinInt32, 0, api.ErrArg}, {math.MinInt + 1, 0, api.ErrArg}, {math.MinInt, 0, api.ErrArg},
	} {
		if n, e := pad.Bucket(c.n); n != c.want || e != c.e {
			t.Errorf("Bucket of %d: %d, error %d, want %d, error %d", c.n, n, e, c.want, c.e)
		}
	}
}

// P14.1: all lengths that can be padded, and many that can't.
func TestBucket(t *testing.T) {
	for n := range most + 1 {
		if got, e := pad.Bucket(n); got != bucket(n) || e != api.OK {
			t.Fatalf("Bucket of %d: %d, error %d, want %d", n, got, e, bucket(n))
		}
	}
	for n := range 20000 {
		if got, e := pad.Bucket(top + n); got != 0 || e != api.ErrLong {
			t.Fatalf("Bucket of %d: %d, error %d", top+n, got, e)
		}
		if got, e := pad.Bucket(-1 - n); got != 0 || e != api.ErrArg {
			t.Fatalf("Bucket of %d: %d, error %d", -1-n, got, e)
		}
	}
}

// P14.1, P14.2: padded bytes that were written out by hand.
func TestKnownPads(t *testing.T) {
	noughts := func(n int) string { return strings.Repeat("00", n) }
	for _, c := range []struct{ b, want string }{
		{"", "80" + noughts(63)},
		{"00", "0080" + noughts(62)},
		{"80", "8080" + noughts(62)},
		{"61", "6180" + noughts(62)},
		{"8000", "800080" + noughts(61)},
		{"616263", "61626380" + noughts(60)},
		{strings.Repeat("61", 63), strings.Repeat("61", 63) + "80"},
		{strings.Repeat("61", 64), strings.Repeat("61", 64) + "80" + noughts(63)},
		{noughts(64), noughts(64) + "80" + noughts(63)},
		{strings.Repeat("ff", 127), strings.Repeat("ff", 127) + "80"},
		{strings.Repeat("ff", 128), strings.Repeat("ff", 128) + "80" + noughts(127)},
		{noughts(2047), noughts(2047) + "80"},
		{noughts(2048), noughts(2048) + "80" + noughts(2047)},
		{noughts(4095), noughts(4095) + "80"},
	} {
		b, _ := hex.DecodeString(c.b)
		p, e := pad.Pad(b)
		if got := hex.EncodeToString(p); e != api.OK || got != c.want {
			t.Errorf("Pad of %.20s, %d bytes: %s, error %d, want %s", c.b, len(b), got, e, c.want)
		}
		want, _ := hex.DecodeString(c.want)
		if got, e := pad.Unpad(want); e != api.OK || !bytes.Equal(got, b) {
			t.Errorf("Unpad of %.20s, %d bytes: %x, error %d, want %s", c.want, len(want), got, e, c.b)
		}
	}
}

// P14.1, P14.3: bytes of all lengths that can be padded: the padded ones, and these unpadded.
func TestPad(t *testing.T) {
	r := rand.New(rand.NewPCG(14, 1))
	for n := range most + 1 {
		for i, b := range kinds(r, n) {
			p, e := pad.Pad(b)
			if e != api.OK || !bytes.Equal(p, padded(b)) {
				t.Fatalf("Pad of %d bytes, kind %d: %d bytes, error %d", n, i, len(p), e)
			}
			if got, e := pad.Unpad(p); e != api.OK || !bytes.Equal(got, b) {
				t.Fatalf("Unpad of %d bytes padded, kind %d: %d bytes, error %d", n, i, len(got), e)
			}
		}
	}
}

// P14.1: what is too long is refused, and nothing told.
func TestPadLong(t *testing.T) {
	for _, n := range []int{4096, 4097, 5000, 8191, 8192, 1 << 16, 1 << 24} {
		if p, e := pad.Pad(make([]byte, n)); len(p) != 0 || e != api.ErrLong {
			t.Errorf("Pad of %d bytes: %d bytes, error %d", n, len(p), e)
		}
	}
}

// P14.2: in lists of all lengths of the first buckets, and of those next to each bucket, a mark at each place that has noughts behind it: only the right ones are taken.
func TestMark(t *testing.T) {
	sizes := make([]int, 300)
	for i := range sizes {
		sizes[i] = i
	}
	for n := 512; n <= 4*top; n *= 2 {
		sizes = append(sizes, n-1, n, n+1, n+n/2)
	}
	taken := 0
	for _, size := range sizes {
		for at := range size {
			for _, filling := range []byte{0, 0x80, 0x61} {
				// The bytes far ahead of the mark tell nothing new, and cost much.
				if filling != 0 && size > 300 && at%97 != 0 && at != size/2 && at != size/2-1 && at != size-1 {
					continue
				}
				b := append(bytes.Repeat([]byte{filling}, at), 0x80)
				b = append(b, make([]byte, size-at-1)...)
				got, e := pad.Unpad(b)
				good := slices.Contains([]int{64, 128, 256, 512, 1024, 2048, 4096}, size) && (at >= size/2 || size == 64)
				if good && (e != api.OK || !bytes.Equal(got, b[:at])) || !good && (e != api.ErrPad || len(got) != 0) {
					t.Fatalf("Unpad of %d bytes with the mark at %d: %d bytes, error %d; is it padded: %t", size, at, len(got), e, good)
				}
				if good && filling == 0 {
					taken++
				}
			}
		}
	}
	if taken != most+1 {
		t.Errorf("%d places are taken, want %d", taken, most+1)
	}
}

// P14.2: the last byte that is not nought must be the mark, at whatever place it stands, and whatever stands ahead of it.
func TestNoMark(t *testing.T) {
	r := rand.New(rand.NewPCG(14, 2))
	for _, size := range []int{64, 128, 256, 512, 1024, 2048, 4096} {
		for _, at := range []int{0, 1, size/2 - 1, size / 2, size/2 + 1, size - 2, size - 1} {
			for x := range 256 {
				for _, ahead := range [][]byte{make([]byte, at), chance(r, at), bytes.Repeat([]byte{0x80}, at)} {
					b := slices.Concat(ahead, []byte{byte(x)}, make([]byte, size-at-1))
					if good := holdsUnpad(t, b, size, at, x); good && x != 0x80 && x != 0 {
						t.Fatalf("%d bytes, of which %d is the last one that is not nought, were unpadded", size, x)
					}
				}
			}
		}
		holdsUnpad(t, make([]byte, size), "noughts")
		holdsUnpad(t, bytes.Repeat([]byte{0xff}, size), "ones")
	}
}

// P14.2: lists of no bytes, and of noughts alone, of all lengths.
func TestNothing(t *testing.T) {
	for _, b := range [][]byte{nil, {}} {
		if got, e := pad.Unpad(b); len(got) != 0 || e != api.ErrPad {
			t.Errorf("Unpad of nothing: %x, error %d", got, e)
		}
		if got, e := pad.Pad(b); e != api.OK || !bytes.Equal(got, padded(nil)) {
			t.Errorf("Pad of nothing: %x, error %d", got, e)
		}
	}
	for n := range 2*top + 2 {
		if got, e := pad.Unpad(make([]byte, n)); len(got) != 0 || e != api.ErrPad {
			t.Fatalf("Unpad of %d noughts: %x, error %d", n, got, e)
		}
	}
}

// P14.2: what was padded, with a byte fewer or more at either end, or as much again; or in another bucket.
func TestOtherLength(t *testing.T) {
	r := rand.New(rand.NewPCG(14, 3))
	for _, n := range lengths() {
		p := padded(chance(r, n))
		holdsUnpad(t, p[1:], n, "without the first")
		for _, less := range []int{1, 2, 3, len(p) / 2, len(p) - 1} {
			holdsUnpad(t, p[:len(p)-less], n, "without the last", less)
		}
		for _, more := range []int{1, 2, 64, len(p), 3 * len(p)} {
			if holdsUnpad(t, slices.Concat(p, make([]byte, more)), n, "noughts behind", more) {
				t.Fatalf("%d bytes padded, and %d noughts, were unpadded", n, more)
			}
			holdsUnpad(t, slices.Concat(make([]byte, more), p), n, "noughts ahead", more)
		}
		holdsUnpad(t, slices.Concat(p, []byte{0x80}), n, "a mark behind")
	}
	for _, n := range []int{2 * top, 1 << 16, 1 << 24} {
		b := make([]byte, n)
		b[n-1] = 0x80
		holdsUnpad(t, b, "long", n)
		b[n-1], b[n/2] = 0, 0x80
		holdsUnpad(t, b, "long", n)
		b[n/2], b[63] = 0, 0x80
		holdsUnpad(t, b, "long", n)
	}
}

// P14.2: each byte of what was padded changed, one by one.
func TestChanged(t *testing.T) {
	r := rand.New(rand.NewPCG(14, 4))
	for _, n := range []int{0, 1, 31, 62, 63, 64, 65, 126, 127, 128, 200, 255} {
		p := padded(chance(r, n))
		for i := range p {
			for x := range 256 {
				was := p[i]
				p[i] ^= byte(x)
				if good := holdsUnpad(t, p, n, i, x); good && i >= n && x != 0 && x != 0x80 {
					t.Fatalf("%d bytes padded, byte %d changed by %d: unpadded", n, i, x)
				}
				p[i] = was
			}
		}
	}
}

// P14.3: of any bytes: what is unpadded has, padded again, the same bytes.
func TestPadAgain(t *testing.T) {
	r := rand.New(rand.NewPCG(14, 5))
	good := 0
	for i := range 60000 {
		b := make([]byte, 64<<r.IntN(3))
		for k := range b[:r.IntN(len(b)+1)] {
			b[k] = []byte{0, 0, 0x80, byte(r.Uint32())}[r.IntN(4)]
		}
		if r.IntN(9) == 0 {
			b = b[:len(b)-r.IntN(3)]
		}
		if !holdsUnpad(t, b, i) {
			continue
		}
		good++
		got, _ := pad.Unpad(b)
		if again, e := pad.Pad(got); e != api.OK || !bytes.Equal(again, b) {
			t.Fatalf("%x was unpadded: %x, and padded again: %x, error %d", b, got, again, e)
		}
	}
	if good < 5000 || good > 55000 {
		t.Fatalf("%d of 60000 were padded", good)
	}
}

// P14.4: of all pairs of lengths: two lists padded are of one length just if their buckets are the same; what stands in them changes nothing.
func TestLengths(t *testing.T) {
	r := rand.New(rand.NewPCG(14, 6))
	var sizes, buckets [most + 1]int
	for n := range sizes {
		for i, b := range kinds(r, n) {
			p, _ := pad.Pad(b)
			if i > 0 && len(p) != sizes[n] {
				t.Fatalf("Pad of %d bytes, kind %d: %d bytes, of kind 0: %d", n, i, len(p), sizes[n])
			}
			sizes[n] = len(p)
		}
		buckets[n], _ = pad.Bucket(n)
	}
	for n := range sizes {
		for k := range n {
			if (sizes[n] == sizes[k]) != (buckets[n] == buckets[k]) {
				t.Fatalf("%d and %d bytes: padded %d and %d, buckets %d and %d", n, k, sizes[n], sizes[k], buckets[n], buckets[k])
			}
		}
	}
}

// What is handed in is neither changed nor kept, the room behind its end included; each answer is new memory.
func TestMemory(t *testing.T) {
	r := rand.New(rand.NewPCG(14, 7))
	type call func(b []byte) ([]byte, api.Errno)
	try := func(c call, b []byte, what ...any) {
		t.Helper()
		was := bytes.Clone(whole(b))
		out, e := c(b)
		other, _ := c(b)
		want := bytes.Clone(out)
		flip(other)
		if e != api.OK || !bytes.Equal(whole(b), was) {
			t.Fatalf("%v: error %d, or what was handed in was changed", what, e)
		}
		flip(b)
		if !bytes.Equal(out, want) {
			t.Fatalf("%v: the answer was changed from outside", what)
		}
		flip(b)
		flip(out)
		if !bytes.Equal(whole(b), was) {
			t.Fatalf("%v: what was handed in was changed by the answer", what)
		}
	}
	for _, n := range lengths() {
		b := chance(r, n)
		try(pad.Pad, b, "Pad", n)
		p := append(chance(r, 0), padded(b)...)
		try(pad.Unpad, p, "Unpad", n)
	}
	for _, b := range [][]byte{chance(r, 4096), chance(r, 64), chance(r, 0), append(chance(r, 0), make([]byte, 64)...)} {
		was := bytes.Clone(whole(b))
		pad.Pad(b)
		pad.Unpad(b)
		if !bytes.Equal(whole(b), was) {
			t.Errorf("%d bytes that are refused were changed", len(b))
		}
	}
}
