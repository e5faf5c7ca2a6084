package field_test

import (
	"bytes"
	"math"
	"math/big"
	"math/rand/v2"
	"slices"
	"testing"

	"sealwax/api"
	"sealwax/field"
)

const full = math.MaxUint64

var (
	one   = big.NewInt(1)
	prime = power(255).Sub(power(255), big.NewInt(19))
)

// power is 2^n.
func power(n uint) *big.Int { return new(big.Int).Lsh(one, n) }

// value is what a number is worth.
func value(a api.Num) *big.Int {
	n := new(big.Int)
	for _, w := range slices.Backward(a[:]) {
		n.Lsh(n, 64).Or(n, new(big.Int).SetUint64(w))
	}
	return n
}

// num is the number of a worth, 0 to 2^256 - 1.
func num(n *big.Int) api.Num {
	var a api.Num
	for i := range a {
		a[i] = new(big.Int).Rsh(n, uint(64*i)).Uint64() // its lowest 64 bits
	}
	return a
}

// left is what is left of n divided by p, 0 or more.
func left(n *big.Int) api.Num { return num(new(big.Int).Mod(n, prime)) }

// edges are numbers near 0, near p and its multiples, and near the powers of 2 at which words, bytes and numbers end.
func edges() []api.Num {
	var out []api.Num
	for _, n := range []*big.Int{new(big.Int), prime, new(big.Int).Lsh(prime, 1), power(64), power(128), power(192), power(248), power(254), power(255), power(256)} {
		for _, d := range []int64{-39, -38, -37, -20, -19, -18, -2, -1, 0, 1, 2, 18, 19, 20, 36, 37} {
			if m := new(big.Int).Add(n, big.NewInt(d)); m.Sign() >= 0 && m.BitLen() <= 256 {
				out = append(out, num(m))
			}
		}
	}
	half := new(big.Int).Rsh(prime, 1)
	return append(out, num(half), num(new(big.Int).Add(half, one)), api.Num{0, full, full, full}, api.Num{full, 0, full, full >> 1}, api.Num{0x5555555555555555, 0xaaaaaaaaaaaaaaaa, 1, 7})
}

// chance is a number out of chance: words of noughts and of ones alone often, so that much is carried.
func chance(r *rand.Rand) api.Num {
	var a api.Num
	for i := range a {
		switch r.IntN(8) {
		case 0:
			a[i] = 0
		case 1:
			a[i] = full
		case 2:
			a[i] = full - r.Uint64N(64)
		default:
			a[i] = r.Uint64()
		}
	}
	return a
}

// sample is the edges, and n numbers out of chance.
func sample(seed uint64, n int) []api.Num {
	r := rand.New(rand.NewPCG(3, seed))
	out := edges()
	for range n {
		out = append(out, chance(r))
	}
	return out
}

// wants tells of an answer that is not what it must be.
func wants(t *testing.T, got, want api.Num, name string, args ...api.Num) {
	t.Helper()
	if got != want {
		t.Errorf("%s of %x: %x, want %x", name, args, got, want)
	}
}

// P3.1: Prime.
func TestPrime(t *testing.T) {
	p := field.Prime()
	if p != (api.Num{full - 18, full, full, full >> 1}) || value(p).Cmp(prime) != 0 || !prime.ProbablyPrime(20) {
		t.Errorf("Prime: %x", p)
	}
	p[0] = 5 // a caller's own
	if field.Prime() == p {
		t.Error("Prime is shared")
	}
}

// P3.1: Right, Reduce, Neg.
func TestReduce(t *testing.T) {
	for _, a := range sample(1, 3000) {
		n := value(a)
		if field.Right(a) != (n.Cmp(prime) < 0) {
			t.Errorf("Right of %x: %t", a, field.Right(a))
		}
		wants(t, field.Reduce(a), left(n), "Reduce", a)
		wants(t, field.Neg(a), left(n.Neg(n)), "Neg", a)
	}
}

// sums holds what two numbers come to against their worths.
func sums(t *testing.T, a, b api.Num) {
	t.Helper()
	x, y, n := value(a), value(b), new(big.Int)
	wants(t, field.Add(a, b), left(n.Add(x, y)), "Add", a, b)
	wants(t, field.Sub(a, b), left(n.Sub(x, y)), "Sub", a, b)
	wants(t, field.Mul(a, b), left(n.Mul(x, y)), "Mul", a, b)
}

// P3.1: Add, Sub, Mul, of numbers that are not below p, too.
func TestSums(t *testing.T) {
	l := edges()
	for _, a := range l {
		for _, b := range l {
			sums(t, a, b)
		}
	}
	r := rand.New(rand.NewPCG(3, 2))
	for range 20000 {
		a := chance(r)
		sums(t, a, chance(r))
		sums(t, a, a)
		sums(t, a, api.Num{r.Uint64N(40)})
	}
}

// P3.1: products of which what is above 2^256, folded in, goes beyond 2^256 once more.
func TestMulCarried(t *testing.T) {
	r := rand.New(rand.NewPCG(3, 3))
	top := new(big.Int).Sub(power(256), one)
	carried := 0
	for range 20000 {
		// a times b is near to where 38 high + low is 2^256 times some number.
		a := value(chance(r))
		if a.Sign() == 0 {
			continue
		}
		goal := new(big.Int).Mul(prime, value(chance(r)))
		b := new(big.Int).Div(goal, a)
		if b.Cmp(top) > 0 {
			continue
		}
		product := new(big.Int).Mul(a, b)
		high, low := new(big.Int).Rsh(product, 256), new(big.Int).And(product, top)
		if high.Mul(high, big.NewInt(38)).Add(high, low).BitLen() > 256 {
			carried++
		}
		sums(t, num(a), num(b))
	}
	if carried < 1000 {
		t.Error("too few were carried:", carried)
	}
}

// P3.1, by numbers that are written out.
func TestSumsWritten(t *testing.T) {
	p, top := field.Prime(), api.Num{full, full, full, full}
	last := api.Num{full - 19, full, full, full >> 1} // p - 1
	if field.Right(p) || field.Right(top) || !field.Right(last) || !field.Right(api.Num{}) {
		t.Error("Right")
	}
	wants(t, field.Reduce(p), api.Num{}, "Reduce", p)
	wants(t, field.Reduce(last), last, "Reduce", last)
	wants(t, field.Reduce(top), api.Num{37}, "Reduce", top)
	wants(t, field.Add(last, api.Num{1}), api.Num{}, "Add", last, api.Num{1})
	wants(t, field.Add(top, top), api.Num{74}, "Add", top, top)
	wants(t, field.Sub(api.Num{}, api.Num{1}), last, "Sub", api.Num{}, api.Num{1})
	wants(t, field.Sub(api.Num{}, top), api.Num{full - 55, full, full, full >> 1}, "Sub", api.Num{}, top)
	wants(t, field.Neg(api.Num{}), api.Num{}, "Neg", api.Num{})
	wants(t, field.Neg(p), api.Num{}, "Neg", p)
	wants(t, field.Neg(last), api.Num{1}, "Neg", last)
	wants(t, field.Mul(api.Num{0, 0, 0, 1 << 62}, api.Num{2}), api.Num{19}, "Mul", api.Num{0, 0, 0, 1 << 62}, api.Num{2})
	wants(t, field.Mul(last, last), api.Num{1}, "Mul", last, last)
	wants(t, field.Mul(top, top), api.Num{37 * 37}, "Mul", top, top)
	wants(t, field.Mul(p, top), api.Num{}, "Mul", p, top)
}

// P3.2: Power.
func TestPower(t *testing.T) {
	hold := func(a, e api.Num) {
		t.Helper()
		wants(t, field.Power(a, e), num(new(big.Int).Exp(value(a), value(e), prime)), "Power", a, e)
	}
	exponents := []api.Num{{}, {1}, {2}, {3}, {19}, {0, 1}, {0, 0, 1}, {0, 0, 0, 1}, {0, 0, 0, 1 << 63}, field.Prime(), {full - 19, full, full, full >> 1}, {full, full, full, full}}
	for _, a := range edges() {
		for _, e := range exponents {
			hold(a, e)
		}
	}
	for i := range 256 { // each bit of e has a place of its own
		hold(api.Num{3}, num(power(uint(i))))
	}
	r := rand.New(rand.NewPCG(3, 4))
	for range 500 {
		hold(chance(r), chance(r))
		hold(chance(r), api.Num{r.Uint64N(1000)})
	}
	wants(t, field.Power(api.Num{}, api.Num{}), api.Num{1}, "Power", api.Num{}, api.Num{})
	wants(t, field.Power(field.Prime(), api.Num{}), api.Num{1}, "Power", field.Prime(), api.Num{})
	wants(t, field.Power(api.Num{3}, api.Num{4}), api.Num{81}, "Power", api.Num{3}, api.Num{4})
}

// P3.2: Invert. P3.5: the inverse's inverse is the number.
func TestInvert(t *testing.T) {
	for _, a := range sample(5, 500) {
		i := field.Invert(a)
		want, product := api.Num{}, api.Num{}
		if n := new(big.Int).ModInverse(value(a), prime); n != nil {
			want, product = num(n), api.Num{1}
		}
		wants(t, i, want, "Invert", a)
		wants(t, field.Mul(a, i), product, "Mul with the inverse", a)
		wants(t, field.Invert(i), left(value(a)), "Invert of Invert", a)
	}
	wants(t, field.Invert(api.Num{2}), api.Num{full - 8, full, full, full >> 2}, "Invert", api.Num{2})
}

// P3.2: Root.
func TestRoot(t *testing.T) {
	l := sample(6, 500)
	for i := range uint64(300) {
		l = append(l, api.Num{i}, field.Neg(api.Num{i}))
	}
	for _, a := range l {
		want, there := api.Num{}, false
		if n := new(big.Int).ModSqrt(new(big.Int).Mod(value(a), prime), prime); n != nil {
			if there = true; n.Bit(0) == 1 {
				n.Sub(prime, n)
			}
			want = num(n)
		}
		r, ok := field.Root(a)
		if ok != there {
			t.Errorf("Root of %x: %t", a, ok)
		}
		wants(t, r, want, "Root", a)
	}
}

// P3.2: the root of a square is even, below p, and the number that was squared, or its negative.
func TestRootOfSquare(t *testing.T) {
	for _, a := range sample(7, 500) {
		r, ok := field.Root(field.Mul(a, a))
		if !ok || r[0]&1 != 0 || !field.Right(r) || r != field.Reduce(a) && r != field.Neg(a) {
			t.Errorf("Root of the square of %x: %x, %t", a, r, ok)
		}
	}
}

// P3.2: Root, by numbers that are written out.
func TestRootWritten(t *testing.T) {
	p := field.Prime()
	for _, c := range []struct {
		a, root api.Num
		ok      bool
	}{
		{api.Num{}, api.Num{}, true},
		{p, api.Num{}, true},
		{api.Num{full - 37, full, full, full}, api.Num{}, true}, // 2 p
		{api.Num{1}, api.Num{full - 19, full, full, full >> 1}, true},
		{api.Num{4}, api.Num{2}, true},
		{api.Num{9}, api.Num{full - 21, full, full, full >> 1}, true},
		{api.Num{2}, api.Num{}, false},
		{field.Neg(api.Num{2}), api.Num{}, false},
		{field.Neg(api.Num{1}), api.Num{0xc4ee1b274a0ea0b0, 0x2f431806ad2fe478, 0x2b4d00993dfbd7a7, 0x2b8324804fc1df0b}, true},
	} {
		if r, ok := field.Root(c.a); r != c.root || ok != c.ok {
			t.Errorf("Root of %x: %x, %t; want %x, %t", c.a, r, ok, c.root, c.ok)
		}
	}
}

// inBytes is a worth in so many bytes, the lowest first, with room behind their end.
func inBytes(n *big.Int, size int) []byte {
	b := n.FillBytes(make([]byte, size, size+16))
	slices.Reverse(b)
	return b
}

// P3.3: Decode, and P3.7: each element has one form.
func TestDecode(t *testing.T) {
	for _, a := range sample(8, 1000) {
		b := inBytes(value(a), 32)
		before := bytes.Clone(b[:cap(b)])
		got, e := field.Decode(b)
		want, wantE := a, api.OK
		if value(a).Cmp(prime) >= 0 {
			want, wantE = api.Num{}, api.ErrRange
		}
		if got != want || e != wantE {
			t.Errorf("Decode of %x: %x, error %d", b, got, e)
		}
		if !bytes.Equal(b[:cap(b)], before) {
			t.Error("Decode has changed what was handed in")
		}
		if e == api.OK && !bytes.Equal(field.Encode(got), b) {
			t.Errorf("%x is not the form of its element", b)
		}
	}
}

// P3.3: Decode of too few or too many bytes, whatever their number is.
func TestDecodeLength(t *testing.T) {
	for _, n := range []int{0, 1, 8, 16, 30, 31, 33, 34, 64, 1000} {
		for _, b := range [][]byte{make([]byte, n, n+64), bytes.Repeat([]byte{255}, n), bytes.Repeat([]byte{1}, n)} {
			if a, e := field.Decode(b); a != (api.Num{}) || e != api.ErrArg {
				t.Error("Decode of", n, "bytes:", a, e)
			}
		}
	}
	if a, e := field.Decode(nil); a != (api.Num{}) || e != api.ErrArg {
		t.Error("Decode of none:", a, e)
	}
}

// P3.3: Encode, and P3.7: Decode of Encode is the number.
func TestEncode(t *testing.T) {
	for _, a := range sample(9, 1000) {
		rest := left(value(a))
		b := field.Encode(a)
		if !bytes.Equal(b, inBytes(value(rest), 32)) {
			t.Errorf("Encode of %x: %x", a, b)
		}
		if back, e := field.Decode(b); back != rest || e != api.OK {
			t.Errorf("Decode of Encode of %x: %x, error %d", a, back, e)
		}
	}
	last := field.Neg(api.Num{1})
	first, second := field.Encode(last), field.Encode(last)
	clear(first[:cap(first)])
	if want := inBytes(value(last), 32); !bytes.Equal(second, want) || !bytes.Equal(field.Encode(last), want) {
		t.Error("an answer of Encode is shared with another one")
	}
}

// P3.4: sums and products hang on no order and no brackets, and a product goes over a sum.
func TestOrder(t *testing.T) {
	r := rand.New(rand.NewPCG(3, 10))
	l := edges()
	pick := func() api.Num {
		if r.IntN(2) == 0 {
			return chance(r)
		}
		return l[r.IntN(len(l))]
	}
	for range 5000 {
		a, b, c := pick(), pick(), pick()
		wants(t, field.Add(a, b), field.Add(b, a), "Add in another order", a, b)
		wants(t, field.Mul(a, b), field.Mul(b, a), "Mul in another order", a, b)
		wants(t, field.Add(field.Add(a, b), c), field.Add(a, field.Add(b, c)), "Add in brackets", a, b, c)
		wants(t, field.Mul(field.Mul(a, b), c), field.Mul(a, field.Mul(b, c)), "Mul in brackets", a, b, c)
		wants(t, field.Mul(a, field.Add(b, c)), field.Add(field.Mul(a, b), field.Mul(a, c)), "Mul over Add", a, b, c)
		wants(t, field.Sub(field.Add(a, b), b), field.Reduce(a), "Sub of Add", a, b)
		wants(t, field.Add(a, field.Neg(b)), field.Sub(a, b), "Add of Neg", a, b)
	}
}

// P3.5: of unlike ones that are not 0 a product is not 0.
func TestNoNought(t *testing.T) {
	l := sample(11, 100)
	for _, a := range l {
		for _, b := range l {
			nought := field.Reduce(a) == api.Num{} || field.Reduce(b) == api.Num{}
			if (field.Mul(a, b) == api.Num{}) != nought {
				t.Errorf("Mul of %x, %x: %x", a, b, field.Mul(a, b))
			}
		}
	}
}

// P3.6: a number and its negative both have a root, or none has; the product of two that have roots has one.
func TestRoots(t *testing.T) {
	var have []api.Num
	for _, a := range sample(12, 300) {
		_, ok := field.Root(a)
		if _, other := field.Root(field.Neg(a)); other != ok {
			t.Errorf("Root of %x: %t, of its negative: %t", a, ok, other)
		}
		if ok {
			have = append(have, a)
		}
	}
	if len(have) < 100 {
		t.Error("too few have a root:", len(have))
	}
	r := rand.New(rand.NewPCG(3, 13))
	for _, a := range have {
		b := have[r.IntN(len(have))]
		if _, ok := field.Root(field.Mul(a, b)); !ok {
			t.Errorf("Root of the product of %x, %x: there is none", a, b)
		}
	}
}
