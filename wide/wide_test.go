package wide_test

import (
	"bytes"
	"math"
	"math/big"
	"math/rand/v2"
	"testing"

	"sealwax/api"
	"sealwax/wide"
)

const full = math.MaxUint64

var top = api.Num{full, full, full, full}

// worth is what words, the lowest first, are worth.
func worth(words []uint64) *big.Int {
	n := new(big.Int)
	for i := len(words) - 1; i >= 0; i-- {
		n.Lsh(n, 64)
		n.Or(n, new(big.Int).SetUint64(words[i]))
	}
	return n
}

// value is a number's worth.
func value(a api.Num) *big.Int { return worth(a[:]) }

// power is 2^n.
func power(n uint) *big.Int { return new(big.Int).Lsh(big.NewInt(1), n) }

// below is what is left of n modulo 2^bits, nought or more.
func below(n *big.Int, bits uint) *big.Int { return new(big.Int).Mod(n, power(bits)) }

// word is a word out of chance, the edges often.
func word(r *rand.Rand) uint64 {
	switch r.IntN(6) {
	case 0:
		return 0
	case 1:
		return full
	case 2:
		return 1 << r.IntN(64)
	case 3:
		return 1<<r.IntN(64) - 1
	}
	return r.Uint64()
}

// num is a number out of chance, of few words as well as of many.
func num(r *rand.Rand) api.Num {
	var a api.Num
	for i := range 1 + r.IntN(4) {
		a[i] = word(r)
	}
	return a
}

// double is likewise a double number.
func double(r *rand.Rand) [8]uint64 {
	var a [8]uint64
	for i := range 1 + r.IntN(8) {
		a[i] = word(r)
	}
	return a
}

// edges are numbers at which something is carried, or ends.
func edges() []api.Num {
	out := []api.Num{{}, top, {full - 1, full, full, full}, {0x5555555555555555, 0xaaaaaaaaaaaaaaaa, 1, 7}}
	for i := range 256 {
		var one api.Num
		one[i/64] = 1 << (i % 64)
		if i%64 < 2 || i%64 > 61 {
			less, _ := wide.Sub(one, api.Num{1})
			more, _ := wide.Add(one, api.Num{1})
			out = append(out, one, less, more)
		}
	}
	return out
}

// sample is n bytes, none of them nought, with room behind their end.
func sample(n int) []byte {
	b := make([]byte, n+16)
	for i := range b {
		b[i] = byte(1 + (i*37+11)%255)
	}
	return b[:n]
}

// reversed is the number whose bytes these are, the lowest first.
func reversed(b []byte) *big.Int {
	c := bytes.Clone(b)
	for i := range c {
		c[i] = b[len(b)-1-i]
	}
	return new(big.Int).SetBytes(c)
}

// P2.1: From.
func TestFrom(t *testing.T) {
	for n := range 33 {
		for _, b := range [][]byte{sample(n), make([]byte, n), bytes.Repeat([]byte{255}, n)} {
			if a, e := wide.From(b); e != api.OK || value(a).Cmp(reversed(b)) != 0 {
				t.Errorf("From of %x: %x, error %d", b, a, e)
			}
		}
	}
	if a, e := wide.From(nil); a != (api.Num{}) || e != api.OK {
		t.Error("From of none:", a, e)
	}
	for i := range 32 { // each byte has a place of its own
		b := make([]byte, 32)
		b[i] = 1
		if a, e := wide.From(b); e != api.OK || value(a).Cmp(power(uint(8*i))) != 0 {
			t.Error("From of byte", i, a, e)
		}
	}
	for _, n := range []int{33, 34, 40, 63, 64, 65, 1000} {
		for _, b := range [][]byte{sample(n), make([]byte, n)} { // noughts are bytes, too
			if a, e := wide.From(b); a != (api.Num{}) || e != api.ErrLong {
				t.Error("From of", n, "bytes:", a, e)
			}
		}
	}
	b := sample(20)
	before := bytes.Clone(b[:cap(b)])
	if wide.From(b); !bytes.Equal(b[:cap(b)], before) {
		t.Error("From has changed what was handed in")
	}
}

// P2.1: Double.
func TestDouble(t *testing.T) {
	for n := range 65 {
		for _, b := range [][]byte{sample(n), make([]byte, n), bytes.Repeat([]byte{255}, n)} {
			if a, e := wide.Double(b); e != api.OK || worth(a[:]).Cmp(reversed(b)) != 0 {
				t.Errorf("Double of %x: %x, error %d", b, a, e)
			}
		}
	}
	if a, e := wide.Double(nil); a != [8]uint64{} || e != api.OK {
		t.Error("Double of none:", a, e)
	}
	for i := range 64 {
		b := make([]byte, 64)
		b[i] = 1
		if a, e := wide.Double(b); e != api.OK || worth(a[:]).Cmp(power(uint(8*i))) != 0 {
			t.Error("Double of byte", i, a, e)
		}
	}
	for _, n := range []int{65, 66, 72, 128, 1000} {
		for _, b := range [][]byte{sample(n), make([]byte, n)} {
			if a, e := wide.Double(b); a != [8]uint64{} || e != api.ErrLong {
				t.Error("Double of", n, "bytes:", a, e)
			}
		}
	}
	b := sample(50)
	before := bytes.Clone(b[:cap(b)])
	if wide.Double(b); !bytes.Equal(b[:cap(b)], before) {
		t.Error("Double has changed what was handed in")
	}
}

// P2.1: Bytes. P2.4: From of Bytes is the number.
func TestBytes(t *testing.T) {
	r := rand.New(rand.NewPCG(2, 1))
	l := edges()
	for range 500 {
		l = append(l, num(r))
	}
	for _, a := range l {
		b := wide.Bytes(a)
		if len(b) != 32 || reversed(b).Cmp(value(a)) != 0 {
			t.Errorf("Bytes of %x: %x", a, b)
		}
		if back, e := wide.From(b); back != a || e != api.OK {
			t.Errorf("From of Bytes of %x: %x, error %d", a, back, e)
		}
	}
	first, second := wide.Bytes(top), wide.Bytes(top)
	clear(first[:cap(first)])
	if !bytes.Equal(second, bytes.Repeat([]byte{255}, 32)) || !bytes.Equal(wide.Bytes(top), second) {
		t.Error("an answer of Bytes is shared with another one")
	}
}

// sums holds what two numbers come to against their worths.
func sums(t *testing.T, a, b api.Num) {
	t.Helper()
	x, y := value(a), value(b)
	sum, carry := wide.Add(a, b)
	whole := new(big.Int).Add(x, y)
	if value(sum).Cmp(below(whole, 256)) != 0 || carry != new(big.Int).Rsh(whole, 256).Uint64() {
		t.Errorf("Add of %x, %x: %x, %d", a, b, sum, carry)
	}
	left, borrow := wide.Sub(a, b)
	var less uint64
	if x.Cmp(y) < 0 {
		less = 1
	}
	if value(left).Cmp(below(new(big.Int).Sub(x, y), 256)) != 0 || borrow != less {
		t.Errorf("Sub of %x, %x: %x, %d", a, b, left, borrow)
	}
	product := wide.Mul(a, b)
	if worth(product[:]).Cmp(new(big.Int).Mul(x, y)) != 0 {
		t.Errorf("Mul of %x, %x: %x", a, b, product)
	}
	if c := wide.Compare(a, b); c != x.Cmp(y) {
		t.Errorf("Compare of %x, %x: %d", a, b, c)
	}
	// P2.4, and P2.5's first half
	if back, borrow := wide.Sub(sum, b); back != a || borrow != carry {
		t.Errorf("Sub of Add of %x, %x: %x, %d", a, b, back, borrow)
	}
	if product != wide.Mul(b, a) {
		t.Errorf("Mul of %x, %x hangs on their order", a, b)
	}
}

// P2.2: Add, Sub, Mul, Compare. P2.4: Sub takes off what Add has put. P2.5: a product hangs on no order.
func TestSums(t *testing.T) {
	l := edges()
	for _, a := range l {
		for _, b := range l {
			sums(t, a, b)
		}
	}
	r := rand.New(rand.NewPCG(2, 2))
	for range 20000 {
		a := num(r)
		sums(t, a, num(r))
		sums(t, a, a)
		near := a
		near[r.IntN(4)] ^= 1 << r.IntN(64)
		sums(t, a, near)
	}
}

// P2.2, by numbers that are written out.
func TestSumsWritten(t *testing.T) {
	if s, c := wide.Add(top, api.Num{1}); s != (api.Num{}) || c != 1 {
		t.Error("Add of 2^256 - 1 and 1:", s, c)
	}
	if s, c := wide.Add(top, top); s != (api.Num{full - 1, full, full, full}) || c != 1 {
		t.Error("Add of 2^256 - 1 and itself:", s, c)
	}
	if s, c := wide.Add(api.Num{full, full, full}, api.Num{1}); s != (api.Num{0, 0, 0, 1}) || c != 0 {
		t.Error("Add through three words:", s, c)
	}
	if d, b := wide.Sub(api.Num{}, api.Num{1}); d != top || b != 1 {
		t.Error("Sub of 0 and 1:", d, b)
	}
	if d, b := wide.Sub(api.Num{0, 0, 0, 1}, api.Num{1}); d != (api.Num{full, full, full}) || b != 0 {
		t.Error("Sub through three words:", d, b)
	}
	if p := wide.Mul(top, top); p != [8]uint64{1, 0, 0, 0, full - 1, full, full, full} {
		t.Error("Mul of 2^256 - 1 and itself:", p)
	}
	if p := wide.Mul(api.Num{3, 5}, api.Num{7, 0, 2}); p != [8]uint64{21, 35, 6, 10} {
		t.Error("Mul word by word:", p)
	}
	if wide.Compare(api.Num{5, 1}, api.Num{6}) != 1 || wide.Compare(api.Num{6}, api.Num{5, 1}) != -1 {
		t.Error("Compare goes by the lowest word")
	}
	if wide.Compare(api.Num{0, 0, 0, 1 << 63}, api.Num{full, full, full, 1<<63 - 1}) != 1 || wide.Compare(top, top) != 0 || wide.Compare(api.Num{}, api.Num{}) != 0 {
		t.Error("Compare")
	}
}

// P2.3: Bit.
func TestBit(t *testing.T) {
	r := rand.New(rand.NewPCG(2, 3))
	l := edges()
	for range 100 {
		l = append(l, num(r))
	}
	for _, a := range l {
		x := value(a)
		for i := range 256 {
			if wide.Bit(a, i) != uint64(x.Bit(i)) {
				t.Fatalf("Bit %d of %x", i, a)
			}
		}
		for _, i := range []int{-1, -2, -64, -256, 256, 257, 319, 320, 512, 1 << 32, math.MaxInt, math.MinInt, math.MinInt + 1} {
			if wide.Bit(a, i) != 0 {
				t.Errorf("Bit %d of %x is not 0", i, a)
			}
		}
	}
}

// P2.3: Pick.
func TestPick(t *testing.T) {
	r := rand.New(rand.NewPCG(2, 4))
	for range 200 {
		a, b := num(r), num(r)
		if wide.Pick(0, a, b) != a {
			t.Errorf("Pick by 0 of %x, %x", a, b)
		}
		for i := range 64 { // any bit that is set, alone and with those below and above it
			for _, bit := range []uint64{1 << i, 1<<i | 1, full << i, full >> i, full - 1<<i + 1} {
				if wide.Pick(bit, a, b) != b {
					t.Fatalf("Pick by %x of %x, %x", bit, a, b)
				}
			}
		}
	}
}

// P2.3: Mod. P2.6: what is left is below m.
func TestMod(t *testing.T) {
	hold := func(a [8]uint64, m api.Num) {
		t.Helper()
		left, e := wide.Mod(a, m)
		if e != api.OK || value(left).Cmp(new(big.Int).Mod(worth(a[:]), value(m))) != 0 {
			t.Errorf("Mod of %x by %x: %x, error %d", a, m, left, e)
		}
		if wide.Compare(left, m) != -1 {
			t.Errorf("Mod of %x by %x is not below it: %x", a, m, left)
		}
	}
	prime := api.Num{full - 18, full, full, 1<<63 - 1}
	order := api.Num{0x5812631a5cf5d3ed, 0x14def9dea2f79cd6, 0, 1 << 60}
	moduli := append(edges(), prime, order, api.Num{3}, api.Num{10})
	doubles := [][8]uint64{{}, {1}, {10}, {full, full, full, full}, {4: 1}, {7: 1 << 63}, {full, full, full, full, full, full, full, full}, wide.Mul(top, top), wide.Mul(prime, prime)}
	for _, m := range moduli {
		if m == (api.Num{}) {
			continue
		}
		less, _ := wide.Sub(m, api.Num{1})
		for _, a := range append(doubles, wide.Mul(m, m), wide.Mul(m, top), wide.Mul(less, less), wide.Mul(less, api.Num{1}), wide.Mul(m, api.Num{1})) {
			hold(a, m)
		}
	}
	r := rand.New(rand.NewPCG(2, 5))
	for range 3000 {
		m := num(r)
		if m == (api.Num{}) {
			continue
		}
		hold(double(r), m)
		m[3] |= 1 << 63 // a double of what is left goes beyond 2^256 now
		hold(double(r), m)
	}
}

// P2.3: Mod by nought.
func TestModZero(t *testing.T) {
	for _, a := range [][8]uint64{{}, {7}, {7: 1}, {full, full, full, full, full, full, full, full}} {
		if left, e := wide.Mod(a, api.Num{}); left != (api.Num{}) || e != api.ErrZero {
			t.Error("Mod by 0:", a, left, e)
		}
	}
	for i := range 4 { // a word that is set anywhere makes m no nought
		var m api.Num
		m[i] = 1
		if left, e := wide.Mod([8]uint64{7: 9}, m); left != (api.Num{}) || e != api.OK {
			t.Error("Mod by a power of 2:", i, left, e)
		}
	}
}

// P2.5: a product of sums that do not go beyond 2^256 is the sum of products.
func TestProductOfSums(t *testing.T) {
	r := rand.New(rand.NewPCG(2, 6))
	held := 0
	for range 3000 {
		a, b, c := num(r), num(r), num(r)
		sum, carry := wide.Add(a, b)
		if carry != 0 {
			continue
		}
		held++
		whole, one, other := wide.Mul(sum, c), wide.Mul(a, c), wide.Mul(b, c)
		if worth(whole[:]).Cmp(new(big.Int).Add(worth(one[:]), worth(other[:]))) != 0 {
			t.Errorf("Mul of the sum of %x, %x with %x: %x", a, b, c, whole)
		}
	}
	if held < 1000 {
		t.Error("too few sums were held:", held)
	}
}

// P2.6: what is left is the same as of what is left of a with any multiple of m.
func TestMultiple(t *testing.T) {
	r := rand.New(rand.NewPCG(2, 7))
	for range 1000 {
		m, times := num(r), num(r)
		if m == (api.Num{}) {
			continue
		}
		a := num(r)
		left, e := wide.Mod([8]uint64{a[0], a[1], a[2], a[3]}, m)
		if e != api.OK {
			t.Fatal(e)
		}
		// With a below 2^256 the sum has room: (2^256 - 1)^2 + 2^256 - 1 is below 2^512.
		product := wide.Mul(m, times)
		low, carry := wide.Add(api.Num(product[:4]), left)
		high, _ := wide.Add(api.Num(product[4:]), api.Num{carry})
		again, e := wide.Mod([8]uint64(append(low[:], high[:]...)), m)
		if again != left || e != api.OK {
			t.Errorf("Mod by %x of %x with %x times it: %x, error %d; want %x", m, a, times, again, e, left)
		}
	}
}
