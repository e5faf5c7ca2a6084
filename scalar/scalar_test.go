package scalar_test

import (
	"bytes"
	"math"
	"math/big"
	"math/rand/v2"
	"slices"
	"testing"

	"sealwax/api"
	"sealwax/scalar"
)

const full = math.MaxUint64

var (
	one   = big.NewInt(1)
	order = told()
	zero  = scalar.Scalar{}
	top   = scalar.Scalar{full, full, full, full}
	last  = scalar.Scalar{0x5812631a5cf5d3ec, 0x14def9dea2f79cd6, 0, 1 << 60} // L - 1
)

// told is L as the document tells it.
func told() *big.Int {
	n, _ := new(big.Int).SetString("27742317777372353535851937790883648493", 10)
	return n.Add(n, power(252))
}

// power is 2^n.
func power(n uint) *big.Int { return new(big.Int).Lsh(big.NewInt(1), n) }

// value is what a number is worth.
func value[N api.Num | scalar.Scalar](a N) *big.Int {
	n := new(big.Int)
	for i := range len(a) {
		n.Lsh(n, 64).Or(n, new(big.Int).SetUint64(a[len(a)-1-i]))
	}
	return n
}

// number is the number of a worth, 0 to 2^256 - 1.
func number(n *big.Int) scalar.Scalar {
	var a scalar.Scalar
	for i := range a {
		a[i] = new(big.Int).Rsh(n, uint(64*i)).Uint64() // its lowest 64 bits
	}
	return a
}

// left is what is left of n divided by L, 0 or more.
func left(n *big.Int) scalar.Scalar { return number(new(big.Int).Mod(n, order)) }

// edges are numbers near 0, near L's multiples, and near the powers of 2 at which words, L's own high bit, and numbers end.
func edges() []scalar.Scalar {
	marks := []*big.Int{new(big.Int), new(big.Int).Rsh(order, 1)}
	for _, n := range []uint{8, 64, 124, 125, 128, 192, 251, 252, 253, 254, 255, 256} {
		marks = append(marks, power(n))
	}
	for times := range int64(16) {
		marks = append(marks, new(big.Int).Mul(order, big.NewInt(times+1)))
	}
	out := []scalar.Scalar{{0, full, full, full}, {full, 0, full, full >> 4}, {0x5555555555555555, 0xaaaaaaaaaaaaaaaa, 1, 7}}
	for _, n := range marks {
		for d := range int64(5) {
			if m := new(big.Int).Add(n, big.NewInt(d-2)); m.Sign() >= 0 && m.BitLen() <= 256 {
				out = append(out, number(m))
			}
		}
	}
	return out
}

// chance is a number out of chance: words of noughts and of ones alone often, so that much is carried; below 2^253 every other time.
func chance(r *rand.Rand) scalar.Scalar {
	var a scalar.Scalar
	for i := range a {
		switch r.IntN(8) {
		case 0:
			a[i] = 0
		case 1:
			a[i] = full
		case 2:
			a[i] = full - r.Uint64N(64)
		default:
			a[i] = r.Uint64()
		}
	}
	a[3] >>= 3 * r.IntN(2)
	return a
}

// sample is the edges, and n numbers out of chance.
func sample(seed uint64, n int) []scalar.Scalar {
	r := rand.New(rand.NewPCG(4, seed))
	out := edges()
	for range n {
		out = append(out, chance(r))
	}
	return out
}

// wants tells of an answer that is not what it must be.
func wants(t *testing.T, got, want scalar.Scalar, name string, args ...scalar.Scalar) {
	t.Helper()
	if got != want {
		t.Errorf("%s of %x: %x, want %x", name, args, got, want)
	}
}

// inBytes is a worth in so many bytes, the lowest first, with room behind their end that is not nought.
func inBytes(n *big.Int, size int) []byte {
	b := n.FillBytes(make([]byte, size, size+64))
	slices.Reverse(b)
	for i := range b[size:cap(b)] {
		b[:cap(b)][size+i] = byte(i + 1)
	}
	return b
}

// worth is what bytes, the lowest first, are worth.
func worth(b []byte) *big.Int {
	b = bytes.Clone(b)
	slices.Reverse(b)
	return new(big.Int).SetBytes(b)
}

// P4.1: Order.
func TestOrder(t *testing.T) {
	l := scalar.Order()
	if l != (api.Num{0x5812631a5cf5d3ed, 0x14def9dea2f79cd6, 0, 1 << 60}) || value(l).Cmp(order) != 0 || !order.ProbablyPrime(20) {
		t.Errorf("Order: %x", l)
	}
	l[0] = 5 // a caller's own
	if scalar.Order() == l {
		t.Error("Order is shared")
	}
}

// P4.1: Reduce, Num. P4.2: Neg, of numbers that are not below L, too.
func TestReduce(t *testing.T) {
	for _, a := range sample(1, 2000) {
		n := value(a)
		wants(t, scalar.Reduce(api.Num(a)), left(n), "Reduce", a)
		wants(t, scalar.Scalar(a.Num()), left(n), "Num", a)
		wants(t, a.Neg(), left(n.Neg(n)), "Neg", a)
	}
}

// P4.1 and P4.2, by numbers that are written out.
func TestWritten(t *testing.T) {
	l := scalar.Scalar(scalar.Order())
	wants(t, scalar.Reduce(api.Num(l)), zero, "Reduce", l)
	wants(t, scalar.Reduce(api.Num(last)), last, "Reduce", last)
	wants(t, scalar.Reduce(api.Num{}), zero, "Reduce", zero)
	rest := scalar.Scalar{0xd6ec31748d98951c, 0xc6ef5bf4737dcf70, full - 1, full >> 4} // of 2^256 - 1, which is 15 L and this
	wants(t, scalar.Reduce(api.Num(top)), rest, "Reduce", top)
	wants(t, zero.Neg(), zero, "Neg", zero)
	wants(t, l.Neg(), zero, "Neg", l)
	wants(t, scalar.Scalar{1}.Neg(), last, "Neg", scalar.Scalar{1})
	wants(t, last.Neg(), scalar.Scalar{1}, "Neg", last)
	wants(t, last.Add(scalar.Scalar{1}), zero, "Add", last, scalar.Scalar{1})
	wants(t, last.Add(scalar.Scalar{3}), scalar.Scalar{2}, "Add", last, scalar.Scalar{3})
	wants(t, l.Add(l), zero, "Add", l, l)
	wants(t, last.Mul(last), scalar.Scalar{1}, "Mul", last, last)
	wants(t, last.Mul(scalar.Scalar{2}), last.Add(last), "Mul", last, scalar.Scalar{2})
	wants(t, l.Mul(top), zero, "Mul", l, top)
	wants(t, scalar.Scalar{3}.Mul(scalar.Scalar{5}), scalar.Scalar{15}, "Mul", scalar.Scalar{3}, scalar.Scalar{5})
}

// hold holds Of against what its bytes are worth.
func hold(t *testing.T, b []byte) {
	t.Helper()
	before := bytes.Clone(b[:cap(b)])
	if a, e := scalar.Of(b); a != left(worth(b)) || e != api.OK {
		t.Errorf("Of %x: %x, error %d", b, a, e)
	}
	if !bytes.Equal(b[:cap(b)], before) {
		t.Error("Of has changed what was handed in")
	}
}

// P4.1: Of, of 0 to 64 bytes.
func TestOf(t *testing.T) {
	r := rand.New(rand.NewPCG(4, 2))
	for n := range uint(65) {
		whole := power(8 * n)
		hold(t, inBytes(new(big.Int), int(n)))
		hold(t, inBytes(new(big.Int).Sub(whole, one), int(n)))
		for range 20 {
			b := inBytes(new(big.Int), int(n))
			for i := range b {
				b[i] = byte(r.Uint32())
			}
			hold(t, b)
		}
	}
	for i := range uint(512) { // each bit has a place of its own
		hold(t, inBytes(power(i), 64))
	}
	for _, a := range edges() { // L's multiples, and what is near them, as far as there is room
		for _, b := range edges() {
			hold(t, inBytes(new(big.Int).Mul(value(a), value(b)), 64))
		}
	}
	if a, e := scalar.Of(nil); a != zero || e != api.OK {
		t.Errorf("Of none: %x, error %d", a, e)
	}
	if a, e := scalar.Of([]byte{2, 1}); a != (scalar.Scalar{258}) || e != api.OK {
		t.Errorf("Of 2, 1: %x, error %d", a, e)
	}
}

// P4.1: Of more than 64 bytes, whatever their number is.
func TestOfLong(t *testing.T) {
	for _, n := range []int{65, 66, 72, 96, 128, 1000, 1 << 20} {
		for _, b := range [][]byte{make([]byte, n), bytes.Repeat([]byte{1}, n), bytes.Repeat([]byte{255}, n)} {
			if a, e := scalar.Of(b); a != zero || e != api.ErrLong {
				t.Errorf("Of %d bytes: %x, error %d", n, a, e)
			}
		}
	}
}

// P4.1: Decode. P4.4: each number has one form.
func TestDecode(t *testing.T) {
	for _, a := range sample(3, 1000) {
		b := inBytes(value(a), 32)
		before := bytes.Clone(b[:cap(b)])
		got, e := scalar.Decode(b)
		want, wantE := a, api.OK
		if value(a).Cmp(order) >= 0 {
			want, wantE = zero, api.ErrRange
		}
		if got != want || e != wantE {
			t.Errorf("Decode of %x: %x, error %d", b, got, e)
		}
		if !bytes.Equal(b[:cap(b)], before) {
			t.Error("Decode has changed what was handed in")
		}
		if e == api.OK && !bytes.Equal(got.Bytes(), b) {
			t.Errorf("%x is not the form of its number", b)
		}
	}
}

// P4.1: Decode, by numbers that are written out.
func TestDecodeWritten(t *testing.T) {
	b := []byte{0xed, 0xd3, 0xf5, 0x5c, 0x1a, 0x63, 0x12, 0x58, 0xd6, 0x9c, 0xf7, 0xa2, 0xde, 0xf9, 0xde, 0x14, 31: 0x10}
	if a, e := scalar.Decode(b); a != zero || e != api.ErrRange {
		t.Errorf("Decode of L: %x, error %d", a, e)
	}
	b[0]--
	if a, e := scalar.Decode(b); a != last || e != api.OK {
		t.Errorf("Decode of L - 1: %x, error %d", a, e)
	}
	for i := 253; i < 256; i++ { // a bit above is no other form of a number
		c := bytes.Clone(b)
		c[31] |= 1 << (i % 8)
		if a, e := scalar.Decode(c); a != zero || e != api.ErrRange {
			t.Errorf("Decode with bit %d: %x, error %d", i, a, e)
		}
	}
	if a, e := scalar.Decode(make([]byte, 32)); a != zero || e != api.OK {
		t.Errorf("Decode of 0: %x, error %d", a, e)
	}
}

// P4.1: Decode of too few or too many bytes, whatever their number is.
func TestDecodeLength(t *testing.T) {
	for _, n := range []int{0, 1, 8, 16, 30, 31, 33, 34, 64, 65, 1000} {
		for _, b := range [][]byte{make([]byte, n, n+64), bytes.Repeat([]byte{255}, n), bytes.Repeat([]byte{1}, n)} {
			if a, e := scalar.Decode(b); a != zero || e != api.ErrArg {
				t.Errorf("Decode of %d bytes: %x, error %d", n, a, e)
			}
		}
	}
	if a, e := scalar.Decode(nil); a != zero || e != api.ErrArg {
		t.Errorf("Decode of none: %x, error %d", a, e)
	}
}

// P4.1: Bytes. P4.4: Decode of Bytes is the number.
func TestBytes(t *testing.T) {
	for _, a := range sample(4, 1000) {
		rest := left(value(a))
		b := a.Bytes()
		if !bytes.Equal(b, inBytes(value(rest), 32)) {
			t.Errorf("Bytes of %x: %x", a, b)
		}
		if back, e := scalar.Decode(b); back != rest || e != api.OK {
			t.Errorf("Decode of Bytes of %x: %x, error %d", a, back, e)
		}
		if back, e := scalar.Of(b); back != rest || e != api.OK {
			t.Errorf("Of Bytes of %x: %x, error %d", a, back, e)
		}
	}
	want := inBytes(value(last), 32)
	first, second := last.Bytes(), last.Bytes()
	clear(first[:cap(first)])
	if !bytes.Equal(second, want) || !bytes.Equal(last.Bytes(), want) {
		t.Error("an answer of Bytes is shared with another one")
	}
}

// sums holds what two numbers come to against their worths.
func sums(t *testing.T, a, b scalar.Scalar) {
	t.Helper()
	x, y, n := value(a), value(b), new(big.Int)
	wants(t, a.Add(b), left(n.Add(x, y)), "Add", a, b)
	wants(t, a.Mul(b), left(n.Mul(x, y)), "Mul", a, b)
}

// P4.2: Add, Mul, of numbers that are not below L, and of sums beyond 2^256, too.
func TestSums(t *testing.T) {
	l := edges()
	for _, a := range l {
		for _, b := range l {
			sums(t, a, b)
		}
	}
	r := rand.New(rand.NewPCG(4, 5))
	for range 5000 {
		a := chance(r)
		sums(t, a, chance(r))
		sums(t, a, a)
		sums(t, a, scalar.Scalar{r.Uint64N(40)})
	}
}

// P4.2: Fold.
func TestFold(t *testing.T) {
	r := rand.New(rand.NewPCG(4, 6))
	l := edges()
	for range 500 {
		list := make([]scalar.Scalar, r.IntN(20), 24)
		sum, product := new(big.Int), big.NewInt(1)
		for i := range list[:cap(list)] { // what is behind the end counts nowhere
			list[:cap(list)][i] = chance(r)
			if r.IntN(3) == 0 {
				list[:cap(list)][i] = l[r.IntN(len(l))]
			}
		}
		for _, a := range list {
			sum.Add(sum, value(a))
			product.Mod(product.Mul(product, value(a)), order)
		}
		before := slices.Clone(list[:cap(list)])
		wants(t, scalar.Fold(list, false), left(sum), "Fold", list...)
		wants(t, scalar.Fold(list, true), left(product), "Fold with times", list...)
		if !slices.Equal(list[:cap(list)], before) {
			t.Error("Fold has changed what was handed in")
		}
	}
}

// P4.2: Fold, by numbers that are written out; none, one and many.
func TestFoldWritten(t *testing.T) {
	unit := scalar.Scalar{1}
	for _, none := range [][]scalar.Scalar{nil, {}, make([]scalar.Scalar, 0, 4)} {
		wants(t, scalar.Fold(none, false), zero, "Fold")
		wants(t, scalar.Fold(none, true), unit, "Fold with times")
	}
	list := []scalar.Scalar{{2}, {3}, {4}}
	wants(t, scalar.Fold(list, false), scalar.Scalar{9}, "Fold", list...)
	wants(t, scalar.Fold(list, true), scalar.Scalar{24}, "Fold with times", list...)
	for _, a := range edges() { // of one that is not below L what is left is answered
		wants(t, scalar.Fold([]scalar.Scalar{a}, false), left(value(a)), "Fold", a)
		wants(t, scalar.Fold([]scalar.Scalar{a}, true), left(value(a)), "Fold with times", a)
	}
	many := slices.Repeat([]scalar.Scalar{last}, 5001)
	wants(t, scalar.Fold(many, false), scalar.Scalar{5001}.Neg(), "Fold of -1, many times,")
	wants(t, scalar.Fold(many, true), last, "Fold with times of -1, oddly many times,")
	wants(t, scalar.Fold(many[1:], true), unit, "Fold with times of -1, evenly many times,")
	wants(t, scalar.Fold(append(many, zero), true), zero, "Fold with times of -1 and 0")
}

// P4.3: sums and products hang on no order and no brackets; a product goes over a sum; a number and its negative are 0 together.
func TestLaws(t *testing.T) {
	r := rand.New(rand.NewPCG(4, 7))
	l := edges()
	pick := func() scalar.Scalar {
		if r.IntN(2) == 0 {
			return chance(r)
		}
		return l[r.IntN(len(l))]
	}
	for range 2000 {
		a, b, c := pick(), pick(), pick()
		wants(t, a.Add(b), b.Add(a), "Add in another order", a, b)
		wants(t, a.Mul(b), b.Mul(a), "Mul in another order", a, b)
		wants(t, a.Add(b).Add(c), a.Add(b.Add(c)), "Add in brackets", a, b, c)
		wants(t, a.Mul(b).Mul(c), a.Mul(b.Mul(c)), "Mul in brackets", a, b, c)
		wants(t, a.Mul(b.Add(c)), a.Mul(b).Add(a.Mul(c)), "Mul over Add", a, b, c)
		wants(t, a.Add(a.Neg()), zero, "Add of Neg", a)
		wants(t, a.Mul(b.Neg()), a.Mul(b).Neg(), "Mul of Neg", a, b)
		for _, times := range []bool{false, true} {
			wants(t, scalar.Fold([]scalar.Scalar{c, a, b}, times), scalar.Fold([]scalar.Scalar{a, b, c}, times), "Fold in another order", a, b, c)
		}
	}
}
