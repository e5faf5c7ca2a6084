package sign_test

import (
	"bytes"
	"crypto/ed25519"
	"crypto/sha512"
	"encoding/hex"
	"math/big"
	"math/rand/v2"
	"slices"
	"testing"

	"sealwax/api"
	"sealwax/sign"
)

var (
	one   = big.NewInt(1)
	prime = plus(new(big.Int).Lsh(one, 255), -19)
	order = new(big.Int).Add(new(big.Int).Lsh(one, 252), told("27742317777372353535851937790883648493"))
	bent  = over(big.NewInt(-121665), big.NewInt(121666)) // the curve's number
	base  = spot{told("15112221349535400772501151409588531511454012693041857206046113283949847762202"), told("46316835694926478169428394003475163141307993866256225615783033603165251855960")}
	eight = spot{told("14399317868200118260347934320527232580618823971194345261214217575416788799818"), told("2707385501144840649318225287225658788936804267575313519463743609750303402022")} // a point of which just eight make nought
)

// spot is a point of the curve.
type spot struct{ x, y *big.Int }

// plus is n and d.
func plus(n *big.Int, d int64) *big.Int { return new(big.Int).Add(n, big.NewInt(d)) }

// told is the number of these digits.
func told(s string) *big.Int {
	n, _ := new(big.Int).SetString(s, 10)
	return n
}

// times is the product of all, modulo the prime.
func times(l ...*big.Int) *big.Int {
	out := one
	for _, n := range l {
		out = new(big.Int).Mul(out, n)
		out.Mod(out, prime)
	}
	return out
}

// over is a divided by b, modulo the prime; b is not 0.
func over(a, b *big.Int) *big.Int {
	return times(a, new(big.Int).ModInverse(new(big.Int).Mod(b, prime), prime))
}

// sum is the sum of two points, by layer 8's own words.
func sum(p, q spot) spot {
	m := times(bent, p.x, q.x, p.y, q.y)
	x := new(big.Int).Add(times(p.x, q.y), times(q.x, p.y))
	y := new(big.Int).Add(times(p.y, q.y), times(p.x, q.x))
	return spot{over(x, plus(m, 1)), over(y, new(big.Int).Sub(one, m))}
}

// many is a point n times.
func many(n *big.Int, p spot) spot {
	out := spot{new(big.Int), one}
	for i := n.BitLen() - 1; i >= 0; i-- {
		out = sum(out, out)
		if n.Bit(i) == 1 {
			out = sum(out, p)
		}
	}
	return out
}

// small is a small point, i times the one of which eight make nought.
func small(i int64) spot { return many(big.NewInt(i), eight) }

// form is a point's 32 bytes.
func form(p spot) []byte {
	b := number(p.y)
	b[31] |= byte(p.x.Bit(0)) << 7
	return b
}

// number is a number below 2^256 in 32 bytes, the lowest first.
func number(n *big.Int) []byte {
	b := n.FillBytes(make([]byte, 32))
	slices.Reverse(b)
	return b
}

// value is what bytes are worth, the lowest first.
func value(b []byte) *big.Int {
	b = bytes.Clone(b)
	slices.Reverse(b)
	return new(big.Int).SetBytes(b)
}

// digest is what is left of the SHA-512 of all parts, one behind the other.
func digest(l ...[]byte) *big.Int {
	h := sha512.Sum512(bytes.Join(l, nil))
	n := value(h[:])
	return n.Mod(n, order)
}

// join is all parts in a list of its own, with room behind its end that is not nought.
func join(l ...[]byte) []byte {
	b := bytes.Join(l, nil)
	return append(bytes.Clone(b), "and what stands behind"...)[:len(b)]
}

// un is the bytes of these digits.
func un(s string) []byte {
	b, err := hex.DecodeString(s)
	if err != nil {
		panic(err)
	}
	return b
}

// chance is n bytes out of chance.
func chance(r *rand.Rand, n int) []byte {
	b := make([]byte, n)
	for i := range b {
		b[i] = byte(r.Uint32())
	}
	return join(b)
}

// refusal is what layer 8's words say of 32 bytes: found by the library's own root.
func refusal(b []byte) api.Errno {
	y := value(b)
	odd := y.Bit(255)
	y.SetBit(y, 255, 0)
	if y.Cmp(prime) >= 0 {
		return api.ErrRange
	}
	yy := times(y, y)
	x := new(big.Int).ModSqrt(over(plus(yy, -1), plus(times(bent, yy), 1)), prime)
	if x == nil || x.Sign() == 0 && odd == 1 {
		return api.ErrPoint
	}
	return api.OK
}

// isSmall tells whether 32 bytes are a small point's.
func isSmall(b []byte) bool {
	for i := range int64(8) {
		if bytes.Equal(b, form(small(i))) {
			return true
		}
	}
	return false
}

// expected is what P9.2 says, word by word. The library's Verify holds the same sum against R (of bytes that are refused here ahead of it it may say another thing).
func expected(key, b, sig []byte) api.Errno {
	if len(key) != 32 || len(sig) != 64 {
		return api.ErrArg
	}
	if value(sig[32:]).Cmp(order) >= 0 {
		return api.ErrRange
	}
	if e := refusal(key); e != api.OK {
		return e
	}
	if isSmall(key) {
		return api.ErrPoint
	}
	if e := refusal(sig[:32]); e != api.OK {
		return e
	}
	if !ed25519.Verify(key, b, sig) {
		return api.ErrSign
	}
	return api.OK
}

// verifies holds Verify against what is expected of it, and against an error that the test knows.
func verifies(t *testing.T, key, b, sig []byte, want api.Errno, what ...any) {
	t.Helper()
	if e := sign.Verify(key, b, sig); e != want || e != expected(key, b, sig) {
		t.Errorf("Verify, %v: error %d, want %d (by the words %d); key %x, text %x, signature %x", what, e, want, expected(key, b, sig), key, b, sig)
	}
}

// public is Public of a right seed.
func public(t *testing.T, seed []byte) []byte {
	t.Helper()
	k, e := sign.Public(seed)
	if e != api.OK || len(k) != 32 {
		t.Fatalf("Public of %x: %x, error %d", seed, k, e)
	}
	return join(k)
}

// signed is Sign of a right seed.
func signed(t *testing.T, seed, b []byte) []byte {
	t.Helper()
	s, e := sign.Sign(seed, b)
	if e != api.OK || len(s) != 64 {
		t.Fatalf("Sign of %x, %x: %x, error %d", seed, b, s, e)
	}
	return join(s)
}

// seeds are plain ones, and n out of chance.
func seeds(seed uint64, n int) [][]byte {
	out := [][]byte{make([]byte, 32), bytes.Repeat([]byte{255}, 32), append(make([]byte, 31), 1), append([]byte{1}, make([]byte, 31)...)}
	r := rand.New(rand.NewPCG(9, seed))
	for range n {
		out = append(out, chance(r, 32))
	}
	return out
}

// P9.1, P9.2: RFC 8032, 7.1.
func TestKnown(t *testing.T) {
	for i, c := range [][4]string{
		{"9d61b19deffd5a60ba844af492ec2cc44449c5697b326919703bac031cae7f60", "d75a980182b10ab7d54bfed3c964073a0ee172f3daa62325af021a68f707511a", "", "e5564300c360ac729086e2cc806e828a84877f1eb8e5d974d873e065224901555fb8821590a33bacc61e39701cf9b46bd25bf5f0595bbe24655141438e7a100b"},
		{"4ccd089b28ff96da9db6c346ec114e0f5b8a319f35aba624da8cf6ed4fb8a6fb", "3d4017c3e843895a92b70aa74d1b7ebc9c982ccf2ec4968cc0cd55f12af4660c", "72", "92a009a9f0d4cab8720e820b5f642540a2b27b5416503f8fb3762223ebdb69da085ac1e43e15996e458f3613d0f11d8c387b2eaeb4302aeeb00d291612bb0c00"},
		{"c5aa8df43f9f837bedb7442f31dcb7b166d38535076f094b85ce3a2e0b4458f7", "fc51cd8e6218a1a38da47ed00230f0580816ed13ba3303ac5deb911548908025", "af82", "6291d657deec24024827e69c3abe01a30ce548a284743a445e3680d7db5ac3ac18ff9b538d16f290ae67f760984dc6594a7c15e9716ed28dc027beceea1ec40a"},
		{"833fe62409237b9d62ec77587520911e9a759cec1d19755b7da901b96dca3d42", "ec172b93ad5e563bf4932c70e1245034c35467ef2efd4d64ebf819683467e2bf", "ddaf35a193617abacc417349ae20413112e6fa4e89a97ea20a9eeee64b55d39a2192992a274fc1a836ba3c23a3feebbd454d4423643ce80e2a9ac94fa54ca49f", "dc2a4459e7369633a52b1bf277839a00201009a3efbf3ecb69bea2186c26b58909351fc9ac90b3ecfdfbc7c66431e0303dca179c138ac17ad9bef1177331a704"},
	} {
		seed, b := un(c[0]), un(c[2])
		key, sig := public(t, seed), signed(t, seed, b)
		if hex.EncodeToString(key) != c[1] || hex.EncodeToString(sig) != c[3] {
			t.Errorf("test %d: %x, %x", i+1, key, sig)
		}
		verifies(t, key, b, sig, api.OK, "test", i+1)
		verifies(t, key, append(b, 0), sig, api.ErrSign, "another text, test", i+1)
	}
}

// P9.1: Public.
func TestPublic(t *testing.T) {
	for _, seed := range seeds(1, 200) {
		want := ed25519.NewKeyFromSeed(seed).Public().(ed25519.PublicKey)
		if got := public(t, seed); !bytes.Equal(got, want) {
			t.Errorf("Public of %x: %x, want %x", seed, got, want)
		}
	}
}

// P9.1: Sign, by the document's words, step by step.
func TestSignWords(t *testing.T) {
	for i, seed := range seeds(2, 6) {
		b := bytes.Repeat([]byte{byte(i)}, 50*i)
		h := sha512.Sum512(seed)
		h[0], h[31] = h[0]&0xf8, h[31]&0x3f|0x40
		s, prefix := value(h[:32]), h[32:]
		key := form(many(s, base))
		r := digest(prefix, b)
		point := form(many(r, base))
		k := digest(point, key, b)
		sum := new(big.Int).Add(r, new(big.Int).Mul(k, s))
		want := join(point, number(sum.Mod(sum, order)))
		if got := public(t, seed); !bytes.Equal(got, key) {
			t.Errorf("Public of %x: %x, want %x", seed, got, key)
		}
		if got := signed(t, seed, b); !bytes.Equal(got, want) {
			t.Errorf("Sign of %x, %x: %x, want %x", seed, b, got, want)
		}
	}
}

// P9.1: Sign of texts of all lengths of some blocks, and of long ones. P9.3: what is signed is verified.
func TestSign(t *testing.T) {
	r := rand.New(rand.NewPCG(9, 3))
	lengths := []int{1000, 4095, 4096, 65535, 65536, 1 << 20}
	for n := range 280 {
		lengths = append(lengths, n)
	}
	for _, n := range lengths {
		seed, b := chance(r, 32), chance(r, n)
		long := ed25519.NewKeyFromSeed(seed)
		sig := signed(t, seed, b)
		if want := ed25519.Sign(long, b); !bytes.Equal(sig, want) {
			t.Errorf("Sign of %x, %d bytes: %x, want %x", seed, n, sig, want)
		}
		verifies(t, public(t, seed), b, sig, api.OK, "of", n)
	}
}

// P9.3, for plain seeds and texts: what is signed is verified by its key, and by no other one; nor is another text.
func TestVerify(t *testing.T) {
	texts := [][]byte{nil, {}, {0}, {0, 0}, {1}, []byte("text"), []byte("texts"), make([]byte, 200)}
	l := seeds(4, 2)
	for i, seed := range l {
		key, other := public(t, seed), public(t, l[(i+1)%len(l)])
		for j, b := range texts {
			sig := signed(t, seed, b)
			verifies(t, key, b, sig, api.OK, "what was signed")
			verifies(t, other, b, sig, api.ErrSign, "another key")
			if next := texts[(j+1)%len(texts)]; len(b)+len(next) > 0 {
				verifies(t, key, next, sig, api.ErrSign, "another text")
			}
		}
	}
}

// P9.1: a seed of another length is refused, whatever it is, and whatever is to be signed.
func TestSeedLength(t *testing.T) {
	l := [][]byte{nil, bytes.Repeat([]byte{7}, 1000)}
	for n := range 100 {
		if n != 32 {
			l = append(l, make([]byte, n, n+64), bytes.Repeat([]byte{7}, n))
		}
	}
	for _, seed := range l {
		if k, e := sign.Public(seed); k != nil || e != api.ErrArg {
			t.Errorf("Public of %d bytes: %x, error %d", len(seed), k, e)
		}
		for _, b := range [][]byte{nil, []byte("text")} {
			if s, e := sign.Sign(seed, b); s != nil || e != api.ErrArg {
				t.Errorf("Sign by %d bytes: %x, error %d", len(seed), s, e)
			}
		}
	}
}

// P9.2: which error is told where several apply: all kinds of keys, of numbers, of points and of lengths, one with the other.
func TestErrors(t *testing.T) {
	seed, b := bytes.Repeat([]byte{9}, 32), []byte("text")
	key, sig := public(t, seed), signed(t, seed, b)
	noPoint, high := append([]byte{2}, make([]byte, 31)...), bytes.Repeat([]byte{255}, 32)
	s := value(sig[32:])
	keys := []struct {
		b []byte
		e api.Errno
	}{{key, api.OK}, {key[:31], api.ErrArg}, {join(key, []byte{0}), api.ErrArg}, {nil, api.ErrArg}, {noPoint, api.ErrPoint}, {form(small(0)), api.ErrPoint}, {form(small(3)), api.ErrPoint}, {high, api.ErrRange}, {form(base), api.OK}}
	numbers := []struct {
		b []byte
		e api.Errno
	}{{sig[32:], api.OK}, {sig[32:63], api.ErrArg}, {join(sig[32:], []byte{0}), api.ErrArg}, {nil, api.ErrArg}, {number(order), api.ErrRange}, {number(new(big.Int).Add(s, order)), api.ErrRange}, {high, api.ErrRange}, {number(new(big.Int)), api.OK}, {number(plus(order, -1)), api.OK}}
	points := []struct {
		b []byte
		e api.Errno
	}{{sig[:32], api.OK}, {noPoint, api.ErrPoint}, {high, api.ErrRange}, {form(small(0)), api.OK}, {form(base), api.OK}}
	for i, k := range keys {
		for j, n := range numbers {
			for m, p := range points {
				want := api.ErrSign
				switch {
				case k.e == api.ErrArg || n.e == api.ErrArg:
					want = api.ErrArg
				case n.e != api.OK:
					want = n.e
				case k.e != api.OK:
					want = k.e
				case p.e != api.OK:
					want = p.e
				case i == 0 && j == 0 && m == 0:
					want = api.OK
				}
				verifies(t, k.b, b, join(p.b, n.b), want, "key, number, point", i, j, m)
			}
		}
	}
}

// P9.2: keys and signatures of all lengths but the right ones.
func TestLength(t *testing.T) {
	seed := make([]byte, 32)
	key, sig := public(t, seed), signed(t, seed, nil)
	for n := range 130 {
		if n != 32 {
			verifies(t, join(key, make([]byte, 128))[:n], nil, sig, api.ErrArg, "a key's length", n)
		}
		if n != 64 {
			verifies(t, key, nil, join(sig, make([]byte, 128))[:n], api.ErrArg, "a signature's length", n)
		}
	}
	verifies(t, nil, nil, nil, api.ErrArg, "nothing")
	verifies(t, sig, nil, key, api.ErrArg, "one for the other")
}

// P9.2: a small key is refused, of whatever it would hold otherwise, and so is each other form of it.
func TestSmallKey(t *testing.T) {
	for i := range int64(8) {
		p := small(i)
		for m := range int64(8) {
			// One of these R fits each text: the negative of k times the key.
			for _, b := range [][]byte{nil, {1}, {2}, {3}} {
				verifies(t, form(p), b, join(form(small(m)), number(new(big.Int))), api.ErrPoint, "a small key", i, m)
			}
		}
		// The number beyond p that is the same modulo p, where there is room for one.
		if y := new(big.Int).Add(p.y, prime); y.BitLen() <= 255 {
			for _, odd := range []byte{0, 0x80} {
				key := number(y)
				key[31] |= odd
				verifies(t, key, nil, join(form(base), number(one)), api.ErrRange, "a small key's other form", i)
			}
		}
		// An x of 0 is not odd.
		if p.x.Sign() == 0 {
			key := form(p)
			key[31] |= 0x80
			verifies(t, key, nil, join(form(base), number(one)), api.ErrPoint, "a small key, odd", i)
		}
	}
}

// P9.2: keys and Rs of which a small point is a part: the sum must be R itself, not but for a small point, k being what is left of the digest, not the digest.
func TestMixed(t *testing.T) {
	a, r := big.NewInt(12345), big.NewInt(678)
	for i := range int64(8) {
		key := form(sum(many(a, base), small(i)))
		for j := range int64(8) {
			point := form(sum(many(r, base), small(j)))
			seen := [api.ErrStep + 1]int{}
			for n := range byte(40) {
				b := []byte{byte(i), byte(j), n}
				k := digest(point, key, b)
				s := new(big.Int).Add(r, new(big.Int).Mul(k, a))
				want := api.ErrSign
				if (j+i*new(big.Int).And(k, big.NewInt(7)).Int64())%8 == 0 {
					want = api.OK
				}
				if seen[want]++; seen[want] < 3 {
					verifies(t, key, b, join(point, number(s.Mod(s, order))), want, "mixed", i, j)
				}
			}
			// k times the key's small part has as many worths as i's order lets it; some k must meet R's part, if any does.
			if can := i%2 == 1 || i%4 == 2 && j%2 == 0 || i == 4 && j%4 == 0 || j == 0; can != (seen[api.OK] > 0) {
				t.Error("mixed", i, j, seen)
			}
		}
	}
}

// P9.2: R may be a small point, nought too: nothing is asked of it but that it is a point.
func TestSmallPoint(t *testing.T) {
	a, b := big.NewInt(77), []byte("text")
	key, nought := form(many(a, base)), form(small(0))
	s := new(big.Int).Mul(digest(nought, key, b), a)
	verifies(t, key, b, join(nought, number(s.Mod(s, order))), api.OK, "R is nought")
	verifies(t, key, b, join(nought, number(new(big.Int))), api.ErrSign, "R is nought, S 0")
	for i := range int64(8) {
		point := form(small(i))
		s := new(big.Int).Mul(digest(point, key, b), a)
		want := api.ErrSign
		if i == 0 {
			want = api.OK
		}
		verifies(t, key, b, join(point, number(s.Mod(s, order))), want, "R is small", i)
	}
	point := join(nought)
	point[31] |= 0x80
	verifies(t, key, b, join(point, number(one)), api.ErrPoint, "R is nought, odd")
	verifies(t, key, b, join(number(plus(prime, 1)), number(one)), api.ErrRange, "R is nought's other form")
}

// P9.2: where the sum has R's y or R's x alone, it is not R.
func TestNearly(t *testing.T) {
	a, r, b := big.NewInt(77), big.NewInt(88), []byte("text")
	key, point := form(many(a, base)), form(many(r, base))
	ka := new(big.Int).Mul(digest(point, key, b), a)
	for _, c := range []struct {
		r *big.Int
		e api.Errno
	}{{r, api.OK}, {new(big.Int).Neg(r), api.ErrSign}, {new(big.Int), api.ErrSign}} {
		s := new(big.Int).Add(c.r, ka)
		verifies(t, key, b, join(point, number(s.Mod(s, order))), c.e, "R as often", c.r)
	}
	// The negative and the small point 0, -1 together leave x as it is.
	mixed := form(sum(many(a, base), small(4)))
	for i := range byte(20) {
		b := []byte{i}
		k := digest(point, mixed, b)
		s := new(big.Int).Sub(new(big.Int).Mul(k, a), r)
		verifies(t, mixed, b, join(point, number(s.Mod(s, order))), api.ErrSign, "R's negative, mixed", i)
	}
}

// P9.2: nothing that differs by one bit from what was signed is verified.
func TestBits(t *testing.T) {
	seed, b := bytes.Repeat([]byte{3}, 32), []byte("a text")
	key, sig := public(t, seed), signed(t, seed, b)
	seen := [api.ErrStep + 1]int{}
	flip := func(part []byte, name string) {
		for i := range 8 * len(part) {
			part[i/8] ^= 1 << (i % 8)
			e := sign.Verify(key, b, sig)
			if e == api.OK || e != expected(key, b, sig) {
				t.Errorf("bit %d of the %s: error %d, want %d", i, name, e, expected(key, b, sig))
			}
			seen[e]++
			part[i/8] ^= 1 << (i % 8)
		}
	}
	flip(key, "key")
	flip(b, "text")
	flip(sig, "signature")
	if seen[api.ErrSign] < 400 || seen[api.ErrPoint] < 200 || seen[api.ErrRange] < 3 {
		t.Error("too few of a kind:", seen)
	}
	verifies(t, key, b, sig, api.OK, "what was signed")
}

// P9.2: any bytes.
func TestChance(t *testing.T) {
	r := rand.New(rand.NewPCG(9, 6))
	for range 300 {
		key, b, sig := chance(r, 32), chance(r, r.IntN(9)), chance(r, 64)
		sig[63] &= byte(r.Uint32()) & 0x1f
		verifies(t, key, b, sig, expected(key, b, sig), "chance")
	}
}

// P9.4: of one R no other S is verified, not even one that is as much modulo L.
func TestOneNumber(t *testing.T) {
	for i, seed := range seeds(7, 4) {
		b := []byte{byte(i)}
		key, sig := public(t, seed), signed(t, seed, b)
		s := value(sig[32:])
		for j := 1; ; j++ {
			other := new(big.Int).Add(s, new(big.Int).Mul(order, big.NewInt(int64(j))))
			if other.BitLen() > 256 {
				break
			}
			verifies(t, key, b, join(sig[:32], number(other)), api.ErrRange, "S and so many L", j)
		}
		minus := new(big.Int).Sub(order, s)
		for _, other := range []*big.Int{plus(s, 1), plus(s, -1), minus, new(big.Int), one, plus(order, -1), value(sig[:32])} {
			want := api.ErrSign
			if other.Cmp(order) >= 0 {
				want = api.ErrRange
			}
			verifies(t, key, b, join(sig[:32], number(other)), want, "another S")
		}
		verifies(t, key, b, sig, api.OK, "S itself")
	}
}

// What is handed in is not changed, the room behind its end neither, and may be one list; an answer is new memory.
func TestMemory(t *testing.T) {
	seed, b := join(bytes.Repeat([]byte{5}, 32)), join([]byte("text"))
	key, sig := public(t, seed), signed(t, seed, b)
	lists := [][]byte{seed, b, key, sig}
	var before [][]byte
	for _, l := range lists {
		before = append(before, bytes.Clone(l[:cap(l)]))
	}
	first, _ := sign.Public(seed)
	again, _ := sign.Sign(seed, b)
	verifies(t, key, b, sig, api.OK, "what was signed")
	clear(first[:cap(first)])
	clear(again[:cap(again)])
	for i, l := range lists {
		if !bytes.Equal(l[:cap(l)], before[i]) {
			t.Errorf("list %d has changed: %x", i, l[:cap(l)])
		}
	}
	if !bytes.Equal(public(t, seed), key) || !bytes.Equal(signed(t, seed, b), sig) {
		t.Error("an answer is shared")
	}
	self := signed(t, seed, seed)
	verifies(t, key, seed, self, api.OK, "a seed, signed by itself")
	verifies(t, key, key, signed(t, seed, key), api.OK, "a key, signed by itself")
	together := join(key, sig, b)
	verifies(t, together[:32], together[96:], together[32:96], api.OK, "one list")
	if !bytes.Equal(together, bytes.Join([][]byte{key, sig, b}, nil)) {
		t.Error("a list that is handed in thrice has changed")
	}
}
