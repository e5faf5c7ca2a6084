package curve_test

import (
	"bytes"
	"crypto/ed25519"
	"crypto/sha512"
	"encoding/hex"
	"math"
	"math/big"
	"math/rand/v2"
	"slices"
	"testing"

	"sealwax/api"
	"sealwax/curve"
)

const full = math.MaxUint64

var (
	one     = big.NewInt(1)
	prime   = plus(power(255), -19)
	order   = new(big.Int).Add(power(252), told("27742317777372353535851937790883648493"))
	bent    = over(big.NewInt(-121665), big.NewInt(121666)) // the curve's number
	nought  = api.Point{Y: api.Num{1}}
	last    = api.Point{Y: api.Num{full - 19, full, full, full >> 1}} // 0, -1
	highest = api.Num{full, full, full, full}
)

// power is 2^n.
func power(n uint) *big.Int { return new(big.Int).Lsh(one, n) }

// plus is n and d.
func plus(n *big.Int, d int64) *big.Int { return new(big.Int).Add(n, big.NewInt(d)) }

// told is the number of these digits.
func told(s string) *big.Int {
	n, _ := new(big.Int).SetString(s, 10)
	return n
}

// left is what is left of a number divided by the prime, 0 or more.
func left(n *big.Int) *big.Int { return new(big.Int).Mod(n, prime) }

// times is the product of all, modulo the prime.
func times(l ...*big.Int) *big.Int {
	out := one
	for _, n := range l {
		out = left(new(big.Int).Mul(out, n))
	}
	return out
}

// over is a divided by b, modulo the prime; b is not 0.
func over(a, b *big.Int) *big.Int {
	return times(a, new(big.Int).ModInverse(left(b), prime))
}

// value is what a number is worth.
func value(a api.Num) *big.Int {
	n := new(big.Int)
	for _, w := range slices.Backward(a[:]) {
		n.Lsh(n, 64).Or(n, new(big.Int).SetUint64(w))
	}
	return n
}

// num is the number of a worth, 0 to 2^256 - 1.
func num(n *big.Int) api.Num {
	var a api.Num
	for i := range a {
		a[i] = new(big.Int).Rsh(n, uint(64*i)).Uint64() // its lowest 64 bits
	}
	return a
}

// inBytes is a worth below 2^256 in 32 bytes, the lowest first, with room behind their end that is not nought.
func inBytes(n *big.Int) []byte {
	b := n.FillBytes(make([]byte, 32))
	slices.Reverse(b)
	return append(b, "and what stands behind"...)[:32]
}

// un is the bytes of these digits.
func un(s string) []byte {
	b, err := hex.DecodeString(s)
	if err != nil {
		panic(err)
	}
	return b
}

// fulfils tells whether two numbers fulfil the curve's equation.
func fulfils(x, y *big.Int) bool {
	xx, yy := times(x, x), times(y, y)
	side := new(big.Int).Sub(yy, xx)
	return left(side).Cmp(left(plus(times(bent, xx, yy), 1))) == 0
}

// sum is the sum of two points of the curve, by the document's own words.
func sum(p, q api.Point) api.Point {
	x1, y1, x2, y2 := value(p.X), value(p.Y), value(q.X), value(q.Y)
	m := times(bent, x1, x2, y1, y2)
	x := new(big.Int).Add(times(x1, y2), times(x2, y1))
	y := new(big.Int).Add(times(y1, y2), times(x1, x2))
	return api.Point{
		X: num(over(x, plus(m, 1))),
		Y: num(over(y, new(big.Int).Sub(one, m))),
	}
}

// many is a point n times, n being any number: the sum of what each bit of it makes.
func many(n *big.Int, p api.Point) api.Point {
	out := nought
	for i := n.BitLen() - 1; i >= 0; i-- {
		out = sum(out, out)
		if n.Bit(i) == 1 {
			out = sum(out, p)
		}
	}
	return out
}

// smalls are the points of which eight make nought, by the numbers of one of them: its first multiple to its eighth.
func smalls() []api.Point {
	p := api.Point{
		X: num(told("14399317868200118260347934320527232580618823971194345261214217575416788799818")),
		Y: num(told("2707385501144840649318225287225658788936804267575313519463743609750303402022")),
	}
	var out []api.Point
	for q := p; len(out) < 8; q = sum(q, p) {
		out = append(out, q)
	}
	return out
}

// chance is a number out of chance: words of noughts and of ones alone often.
func chance(r *rand.Rand) api.Num {
	var a api.Num
	for i := range a {
		switch r.IntN(8) {
		case 0:
			a[i] = 0
		case 1:
			a[i] = full
		default:
			a[i] = r.Uint64()
		}
	}
	return a
}

// across is the x of that lowest bit that stands beside y, if one does: found by the library's own root.
func across(y *big.Int, odd uint) (*big.Int, bool) {
	yy := times(y, y)
	x := new(big.Int).ModSqrt(over(plus(yy, -1), plus(times(bent, yy), 1)), prime)
	if x == nil {
		return nil, false
	}
	if x.Bit(0) != odd {
		x = left(x.Neg(x))
	}
	return x, x.Bit(0) == odd
}

// points are the small ones, the base point's first multiples, sums of both, and n out of chance of any order.
func points(seed uint64, n int) []api.Point {
	out := smalls()
	p := curve.Base()
	for i := range 8 {
		out = append(out, p, sum(p, out[i]))
		p = sum(p, curve.Base())
	}
	r := rand.New(rand.NewPCG(8, seed))
	for len(out) < 24+n {
		y := left(value(chance(r)))
		if x, ok := across(y, uint(r.IntN(2))); ok {
			out = append(out, api.Point{X: num(x), Y: num(y)})
		}
	}
	return out
}

// strangers are points that are not on the curve: of numbers that do not fulfil its equation, or are not below the prime.
func strangers() []api.Point {
	zero := api.Num{}
	out := []api.Point{{}, {X: api.Num{1}}, {X: api.Num{1}, Y: api.Num{1}}, {X: zero, Y: api.Num{2}}, {X: highest, Y: highest}, {X: num(prime), Y: num(prime)}}
	for _, p := range append(smalls(), curve.Base(), sum(curve.Base(), curve.Base())) {
		x, y := value(p.X), value(p.Y)
		out = append(out,
			api.Point{X: num(new(big.Int).Add(x, prime)), Y: p.Y},
			api.Point{X: p.X, Y: num(new(big.Int).Add(y, prime))},
			api.Point{X: num(new(big.Int).Add(x, prime)), Y: num(new(big.Int).Add(y, prime))},
			api.Point{X: num(plus(x, 1)), Y: p.Y},
			api.Point{X: p.X, Y: num(plus(y, 2))})
		for _, bit := range []int{0, 1, 63, 64, 127, 128, 191, 192, 254, 255} {
			other := p
			other.X[bit/64] ^= 1 << (bit % 64)
			out = append(out, other)
			other = p
			other.Y[bit/64] ^= 1 << (bit % 64)
			out = append(out, other)
		}
	}
	return slices.DeleteFunc(append(out, api.Point{X: curve.Base().Y, Y: curve.Base().X}), stands)
}

// stands tells whether a point is on the curve, by worths.
func stands(p api.Point) bool {
	x, y := value(p.X), value(p.Y)
	return x.Cmp(prime) < 0 && y.Cmp(prime) < 0 && fulfils(x, y)
}

// multiples are numbers near 0, near the orders of points, near the powers of 2 at which words and numbers end, and n out of chance.
func multiples(seed uint64, n int) []api.Num {
	var out []api.Num
	for _, m := range []*big.Int{new(big.Int), order, new(big.Int).Lsh(order, 1), new(big.Int).Lsh(order, 3), power(64), power(128), power(255), power(256), prime} {
		for d := range int64(5) {
			if k := plus(m, d-2); k.Sign() >= 0 && k.BitLen() <= 256 {
				out = append(out, num(k))
			}
		}
	}
	r := rand.New(rand.NewPCG(8, seed))
	for range n {
		out = append(out, chance(r))
	}
	return append(out, api.Num{7}, api.Num{8}, api.Num{0x5555555555555555, 0xaaaaaaaaaaaaaaaa, 1, 7})
}

// wants tells of an answer that is not the point that it must be.
func wants(t *testing.T, got api.Point, e api.Errno, want api.Point, name string, args ...any) {
	t.Helper()
	if got != want || e != api.OK {
		t.Errorf("%s of %x: %x, error %d; want %x", name, args, got, e, want)
	}
}

// add is Add of points of the curve.
func add(t *testing.T, p, q api.Point) api.Point {
	t.Helper()
	out, e := curve.Add(p, q)
	if e != api.OK {
		t.Fatalf("Add of %x, %x: error %d", p, q, e)
	}
	return out
}

// mult is Mult of a point of the curve.
func mult(t *testing.T, n api.Num, p api.Point) api.Point {
	t.Helper()
	out, e := curve.Mult(n, p)
	if e != api.OK {
		t.Fatalf("Mult of %x, %x: error %d", n, p, e)
	}
	return out
}

// P8.1: D, Base.
func TestBase(t *testing.T) {
	d, b := curve.D(), curve.Base()
	if d != num(bent) || value(d).Cmp(told("37095705934669439343138083508754565189542113879843219016388785533085940283555")) != 0 {
		t.Errorf("D: %x", d)
	}
	x, y := value(b.X), value(b.Y)
	if b.Y != num(over(big.NewInt(4), big.NewInt(5))) || x.Bit(0) != 0 || x.Cmp(prime) >= 0 || !fulfils(x, y) {
		t.Errorf("Base: %x", b)
	}
	if x.Cmp(told("15112221349535400772501151409588531511454012693041857206046113283949847762202")) != 0 || y.Cmp(told("46316835694926478169428394003475163141307993866256225615783033603165251855960")) != 0 {
		t.Errorf("Base: %x", b)
	}
	d[0], b.X[1], b.Y[2] = 5, 6, 7 // a caller's own
	if curve.D() == d || curve.Base().X == b.X || curve.Base().Y == b.Y {
		t.Error("an answer is shared")
	}
}

// P8.1: On.
func TestOn(t *testing.T) {
	for _, p := range points(1, 200) {
		if !curve.On(p) {
			t.Errorf("On of %x: false", p)
		}
	}
	for _, p := range strangers() {
		if curve.On(p) {
			t.Errorf("On of %x: true", p)
		}
	}
	r := rand.New(rand.NewPCG(8, 2))
	for range 2000 {
		p := api.Point{X: chance(r), Y: chance(r)}
		if curve.On(p) != stands(p) {
			t.Errorf("On of %x: %t", p, curve.On(p))
		}
	}
	if l := strangers(); len(l) < 200 {
		t.Error("too few are not on the curve:", len(l))
	}
}

// P8.1: Small.
func TestSmall(t *testing.T) {
	l := smalls()
	if l[3] != last || l[7] != nought {
		t.Fatalf("the small points: %x", l)
	}
	for _, p := range l {
		if !curve.Small(p) {
			t.Errorf("Small of %x: false", p)
		}
	}
	for _, p := range points(3, 100)[8:] {
		if want := many(big.NewInt(8), p) == nought; curve.Small(p) != want || want {
			t.Errorf("Small of %x: %t", p, curve.Small(p))
		}
	}
	for _, p := range strangers() {
		if curve.Small(p) {
			t.Errorf("Small of %x, which is not on the curve: true", p)
		}
	}
}

// P8.2: Add. P8.4: sums are on the curve, and hang on no order.
func TestAdd(t *testing.T) {
	l := points(4, 40)
	for _, p := range l {
		for _, q := range l {
			got, e := curve.Add(p, q)
			wants(t, got, e, sum(p, q), "Add", p, q)
			if !curve.On(got) || add(t, q, p) != got {
				t.Errorf("Add of %x, %x is not on the curve, or hangs on their order", p, q)
			}
		}
	}
}

// P8.4: sums hang on no brackets.
func TestBrackets(t *testing.T) {
	l := points(5, 40)
	r := rand.New(rand.NewPCG(8, 5))
	for range 1000 {
		p, q, s := l[r.IntN(len(l))], l[r.IntN(len(l))], l[r.IntN(len(l))]
		if add(t, add(t, p, q), s) != add(t, p, add(t, q, s)) {
			t.Errorf("the sum of %x, %x, %x hangs on its brackets", p, q, s)
		}
	}
}

// P8.2: Neg. P8.4: a point and its negative make nought.
func TestNeg(t *testing.T) {
	for _, p := range points(6, 200) {
		got, e := curve.Neg(p)
		wants(t, got, e, api.Point{X: num(left(new(big.Int).Neg(value(p.X)))), Y: p.Y}, "Neg", p)
		wants(t, add(t, p, got), api.OK, nought, "the sum with the negative", p)
		again, e := curve.Neg(got)
		wants(t, again, e, p, "Neg of Neg", p)
	}
	got, e := curve.Neg(nought)
	wants(t, got, e, nought, "Neg", nought)
	got, e = curve.Neg(last)
	wants(t, got, e, last, "Neg", last)
}

// P8.2: Mult, of all kinds of numbers and points.
func TestMult(t *testing.T) {
	l := points(7, 8)
	for i, n := range multiples(7, 40) {
		for _, p := range []api.Point{curve.Base(), l[i%8], l[8+i%len(l[8:])]} {
			got, e := curve.Mult(n, p)
			wants(t, got, e, many(value(n), p), "Mult", n, p)
		}
	}
}

// P8.2: Mult, of the first numbers: the sum of so many.
func TestMultFew(t *testing.T) {
	for _, p := range points(8, 4) {
		want := nought
		for n := range uint64(20) {
			got, e := curve.Mult(api.Num{n}, p)
			wants(t, got, e, want, "Mult", n, p)
			want = sum(want, p)
		}
	}
}

// P8.2: Mult and Both, of each bit of a number: each has a place of its own.
func TestBits(t *testing.T) {
	p := sum(curve.Base(), smalls()[0])
	want := p
	for i := range 256 {
		var n api.Num
		n[i/64] = 1 << (i % 64)
		got, e := curve.Mult(n, p)
		wants(t, got, e, want, "Mult", n, p)
		got, e = curve.Both(n, p, api.Num{}, curve.Base())
		wants(t, got, e, want, "Both", n, p, 0, curve.Base())
		got, e = curve.Both(api.Num{}, curve.Base(), n, p)
		wants(t, got, e, want, "Both", 0, curve.Base(), n, p)
		got, e = curve.Both(n, p, n, p)
		want = sum(want, want)
		wants(t, got, e, want, "Both", n, p, n, p)
	}
}

// P8.2: Mult of the base point, by what Go's own Ed25519 makes of it.
func TestMultLibrary(t *testing.T) {
	r := rand.New(rand.NewPCG(8, 9))
	for range 100 {
		seed := inBytes(value(chance(r)))
		h := sha512.Sum512(seed)
		h[0], h[31] = h[0]&0xf8, h[31]&0x3f|0x40
		slices.Reverse(h[:32])
		b, e := curve.Encode(mult(t, num(new(big.Int).SetBytes(h[:32])), curve.Base()))
		want := ed25519.NewKeyFromSeed(seed).Public().(ed25519.PublicKey)
		if !bytes.Equal(b, want) || e != api.OK {
			t.Errorf("Mult of what %x makes: %x, error %d; want %x", seed, b, e, want)
		}
	}
}

// P8.2: Both, of all kinds of numbers and points.
func TestBoth(t *testing.T) {
	l, few := points(10, 8), multiples(10, 0)
	r := rand.New(rand.NewPCG(8, 10))
	for i := range 200 {
		a, b := chance(r), chance(r)
		if i%4 != 0 {
			a = few[r.IntN(len(few))]
		}
		if i%4 > 1 {
			b = few[r.IntN(len(few))]
		}
		p, q := l[r.IntN(len(l))], l[r.IntN(len(l))]
		got, e := curve.Both(a, p, b, q)
		wants(t, got, e, sum(many(value(a), p), many(value(b), q)), "Both", a, p, b, q)
	}
}

// P8.2: Both, of a point and itself, its negative, and nought.
func TestBothAlike(t *testing.T) {
	r := rand.New(rand.NewPCG(8, 11))
	for _, p := range points(11, 4) {
		a, b := chance(r), chance(r)
		minus, _ := curve.Neg(p)
		pa, pb := mult(t, a, p), mult(t, b, p)
		got, e := curve.Both(a, p, b, p)
		wants(t, got, e, sum(pa, pb), "Both", a, p, b, p)
		got, e = curve.Both(a, p, a, minus)
		wants(t, got, e, nought, "Both", a, p, a, minus)
		got, e = curve.Both(a, p, b, nought)
		wants(t, got, e, pa, "Both", a, p, b, nought)
		got, e = curve.Both(a, nought, b, p)
		wants(t, got, e, pb, "Both", a, nought, b, p)
		got, e = curve.Both(api.Num{}, p, api.Num{}, p)
		wants(t, got, e, nought, "Both", 0, p, 0, p)
	}
}

// P8.5: a times and b times together are a + b times, beyond the order, too.
func TestOver(t *testing.T) {
	r := rand.New(rand.NewPCG(8, 12))
	for _, p := range points(12, 20) {
		a, b := chance(r), chance(r)
		a[3], b[3] = a[3]>>1, b[3]>>1 // so that the sum is below 2^256
		both := mult(t, num(new(big.Int).Add(value(a), value(b))), p)
		got, e := curve.Add(mult(t, a, p), mult(t, b, p))
		wants(t, got, e, both, "the sum", a, b, p)
		got, e = curve.Both(a, p, b, p)
		wants(t, got, e, both, "Both", a, p, b, p)
	}
}

// P8.5: L times the base point is nought; of a point that a small one is part of, it is not.
func TestOrder(t *testing.T) {
	n := num(order)
	if p := mult(t, n, curve.Base()); p != nought {
		t.Errorf("L times the base point: %x", p)
	}
	for i, s := range smalls() {
		p := add(t, curve.Base(), s)
		// L is 5 more than a multiple of 8; the small points are the multiples of the first one, from once on.
		if got, want := mult(t, n, p), smalls()[(5*(i+1)+7)%8]; got != want {
			t.Errorf("L times %x: %x, want %x", p, got, want)
		}
		if got := mult(t, num(new(big.Int).Lsh(order, 3)), p); got != nought {
			t.Errorf("8 L times %x: %x", p, got)
		}
	}
	less := num(plus(order, -1))
	minus, e := curve.Neg(curve.Base())
	wants(t, mult(t, less, curve.Base()), e, minus, "Mult", less, curve.Base())
}

// P8.2, P8.3: a point that is not on the curve is refused, wherever it stands, and whatever is asked of it.
func TestStrangers(t *testing.T) {
	refused := func(p api.Point, e api.Errno, name string, q api.Point) {
		t.Helper()
		if p != (api.Point{}) || e != api.ErrPoint {
			t.Errorf("%s of %x: %x, error %d", name, q, p, e)
		}
	}
	for _, q := range strangers() {
		for _, good := range []api.Point{nought, curve.Base(), q} {
			p, e := curve.Add(q, good)
			refused(p, e, "Add", q)
			p, e = curve.Add(good, q)
			refused(p, e, "Add", q)
			for _, n := range []api.Num{{}, {1}, num(order)} {
				p, e = curve.Both(n, q, n, good)
				refused(p, e, "Both", q)
				p, e = curve.Both(n, good, n, q)
				refused(p, e, "Both", q)
			}
		}
		for _, n := range []api.Num{{}, {1}, {8}, num(order), highest} {
			p, e := curve.Mult(n, q)
			refused(p, e, "Mult", q)
		}
		p, e := curve.Neg(q)
		refused(p, e, "Neg", q)
		if b, e := curve.Encode(q); len(b) != 0 || e != api.ErrPoint {
			t.Errorf("Encode of %x: %x, error %d", q, b, e)
		}
	}
}

// P8.3: Encode. P8.6: Decode of Encode is the point.
func TestEncode(t *testing.T) {
	for _, p := range points(13, 300) {
		want := inBytes(value(p.Y))
		want[31] |= byte(p.X[0]&1) << 7
		b, e := curve.Encode(p)
		if !bytes.Equal(b, want) || e != api.OK {
			t.Errorf("Encode of %x: %x, error %d; want %x", p, b, e, want)
		}
		back, e := curve.Decode(b)
		wants(t, back, e, p, "Decode of Encode", p)
	}
}

// decodes holds Decode of 32 bytes against worths. P8.6: each point has one form.
func decodes(t *testing.T, b []byte) api.Errno {
	t.Helper()
	before := bytes.Clone(b[:cap(b)])
	got, e := curve.Decode(b)
	if !bytes.Equal(b[:cap(b)], before) {
		t.Error("Decode has changed what was handed in")
	}
	y := bytes.Clone(b)
	slices.Reverse(y)
	y[0] &= 0x7f
	worth := new(big.Int).SetBytes(y)
	want, wantE := api.Point{}, api.ErrRange
	if worth.Cmp(prime) < 0 {
		wantE = api.ErrPoint
		if x, ok := across(worth, uint(b[31]>>7)); ok {
			want, wantE = api.Point{X: num(x), Y: num(worth)}, api.OK
		}
	}
	if got != want || e != wantE {
		t.Errorf("Decode of %x: %x, error %d; want %x, error %d", b, got, e, want, wantE)
	}
	if e != api.OK {
		return e
	}
	if again, f := curve.Encode(got); !bytes.Equal(again, b) || f != api.OK || !curve.On(got) {
		t.Errorf("%x is not the form of its point: %x, error %d", b, again, f)
	}
	return e
}

// P8.3: Decode, of numbers near 0, the prime and 2^255, near the small points' ones, and out of chance; with the highest bit and without it.
func TestDecode(t *testing.T) {
	var l []*big.Int
	for d := range int64(200) {
		l = append(l, big.NewInt(d), plus(prime, -d), plus(power(254), d-100))
	}
	for d := range int64(19) {
		l = append(l, plus(prime, d)) // to 2^255 - 1
	}
	for _, p := range smalls() {
		for d := range int64(5) {
			if y := plus(value(p.Y), d-2); y.Sign() >= 0 {
				l = append(l, y)
			}
		}
	}
	r := rand.New(rand.NewPCG(8, 14))
	for range 300 {
		l = append(l, new(big.Int).Rsh(value(chance(r)), 1))
	}
	seen := [api.ErrStep + 1]int{}
	for _, y := range l {
		for _, high := range []*big.Int{new(big.Int), power(255)} {
			seen[decodes(t, inBytes(new(big.Int).Or(y, high)))]++
		}
	}
	if seen[api.OK] < 500 || seen[api.ErrPoint] < 500 || seen[api.ErrRange] < 38 {
		t.Error("too few of a kind:", seen)
	}
}

// P8.3: Decode, by bytes that are written out.
func TestDecodeWritten(t *testing.T) {
	for _, c := range []struct {
		b string
		e api.Errno
	}{
		{"0100000000000000000000000000000000000000000000000000000000000000", api.OK},       // nought
		{"0100000000000000000000000000000000000000000000000000000000000080", api.ErrPoint}, // an x of 0 is not odd
		{"ecffffffffffffffffffffffffffffffffffffffffffffffffffffffffffff7f", api.OK},       // -1
		{"ecffffffffffffffffffffffffffffffffffffffffffffffffffffffffffffff", api.ErrPoint},
		{"0000000000000000000000000000000000000000000000000000000000000000", api.OK}, // both roots of -1 stand beside 0
		{"0000000000000000000000000000000000000000000000000000000000000080", api.OK},
		{"0200000000000000000000000000000000000000000000000000000000000000", api.ErrPoint},
		{"0200000000000000000000000000000000000000000000000000000000000080", api.ErrPoint},
		{"edffffffffffffffffffffffffffffffffffffffffffffffffffffffffffff7f", api.ErrRange}, // p, which would be 0
		{"edffffffffffffffffffffffffffffffffffffffffffffffffffffffffffffff", api.ErrRange},
		{"eeffffffffffffffffffffffffffffffffffffffffffffffffffffffffffff7f", api.ErrRange}, // p + 1, which would be nought
		{"eeffffffffffffffffffffffffffffffffffffffffffffffffffffffffffffff", api.ErrRange},
		{"efffffffffffffffffffffffffffffffffffffffffffffffffffffffffffff7f", api.ErrRange}, // p + 2, which would be no point
		{"ffffffffffffffffffffffffffffffffffffffffffffffffffffffffffffff7f", api.ErrRange},
		{"ffffffffffffffffffffffffffffffffffffffffffffffffffffffffffffffff", api.ErrRange},
		{"5866666666666666666666666666666666666666666666666666666666666666", api.OK}, // the base point
		{"58666666666666666666666666666666666666666666666666666666666666e6", api.OK}, // its negative
		{"d75a980182b10ab7d54bfed3c964073a0ee172f3daa62325af021a68f707511a", api.OK}, // RFC 8032, 7.1
		{"3d4017c3e843895a92b70aa74d1b7ebc9c982ccf2ec4968cc0cd55f12af4660c", api.OK},
		{"fc51cd8e6218a1a38da47ed00230f0580816ed13ba3303ac5deb911548908025", api.OK},
	} {
		if e := decodes(t, un(c.b)); e != c.e {
			t.Errorf("Decode of %s: error %d, want %d", c.b, e, c.e)
		}
	}
	got, e := curve.Decode(un("5866666666666666666666666666666666666666666666666666666666666666"))
	wants(t, got, e, curve.Base(), "Decode of the base point's bytes")
	minus, _ := curve.Neg(curve.Base())
	got, e = curve.Decode(un("58666666666666666666666666666666666666666666666666666666666666e6"))
	wants(t, got, e, minus, "Decode of its negative's bytes")
}

// P8.3: Decode of too few or too many bytes, whatever they are.
func TestDecodeLength(t *testing.T) {
	for _, n := range []int{0, 1, 8, 30, 31, 33, 34, 64, 1000} {
		for _, b := range [][]byte{make([]byte, n, n+64), bytes.Repeat([]byte{255}, n), append(un("58"), bytes.Repeat(un("66"), 1000)...)[:n], nil} {
			if p, e := curve.Decode(b); p != (api.Point{}) || e != api.ErrArg {
				t.Errorf("Decode of %x: %x, error %d", b, p, e)
			}
		}
	}
}

// What Encode answers is new memory, and is not what Decode was handed.
func TestMemory(t *testing.T) {
	want := un("5866666666666666666666666666666666666666666666666666666666666666")
	first, _ := curve.Encode(curve.Base())
	second, _ := curve.Encode(curve.Base())
	p, _ := curve.Decode(first)
	clear(first[:cap(first)])
	if third, e := curve.Encode(p); !bytes.Equal(second, want) || !bytes.Equal(third, want) || e != api.OK {
		t.Errorf("Encode: %x, %x, error %d", second, third, e)
	}
}
