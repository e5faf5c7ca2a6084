package ladder_test

import (
	"bytes"
	"crypto/ecdh"
	"encoding/hex"
	"math/big"
	"math/rand/v2"
	"slices"
	"testing"

	"sealwax/api"
	"sealwax/ladder"
)

var (
	prime = new(big.Int).Sub(power(255), big.NewInt(19))
	nine  = inBytes(big.NewInt(9))
	// small are the numbers below the prime that a multiple of 8 makes nought of, whatever it is.
	small = []*big.Int{
		big.NewInt(0),
		big.NewInt(1),
		told("325606250916557431795983626356110631294008115727848805560023387167927233504"),
		told("39382357235489614581723060781553021112529911719440698176882885853963445705823"),
		new(big.Int).Sub(prime, big.NewInt(1)),
	}
)

// power is 2^n.
func power(n uint) *big.Int { return new(big.Int).Lsh(big.NewInt(1), n) }

// told is the number of these digits.
func told(s string) *big.Int {
	n, _ := new(big.Int).SetString(s, 10)
	return n
}

// plus is n and d.
func plus(n *big.Int, d int64) *big.Int { return new(big.Int).Add(n, big.NewInt(d)) }

// inBytes is a worth below 2^256 in 32 bytes, the lowest first, with room behind their end that is not nought.
func inBytes(n *big.Int) []byte {
	b := n.FillBytes(make([]byte, 32))
	slices.Reverse(b)
	return append(b, "and what stands behind"...)[:32]
}

// un is the bytes of these digits.
func un(s string) []byte {
	b, err := hex.DecodeString(s)
	if err != nil {
		panic(err)
	}
	return b
}

// chance is 32 bytes out of chance.
func chance(r *rand.Rand) []byte {
	b := make([]byte, 32)
	for i := range b {
		b[i] = byte(r.Uint32())
	}
	return b
}

// flipped is a list with one of its bits changed.
func flipped(b []byte, bit int) []byte {
	out := bytes.Clone(b)
	out[bit/8] ^= 1 << (bit % 8)
	return out
}

// secrets are secrets of bits that are all alike, or like but for one, and n out of chance.
func secrets(r *rand.Rand, n int) [][]byte {
	out := [][]byte{make([]byte, 32), bytes.Repeat([]byte{255}, 32), bytes.Repeat([]byte{0x55}, 32), bytes.Repeat([]byte{0xaa}, 32)}
	for i := range 256 {
		out = append(out, flipped(out[0], i), flipped(out[1], i))
	}
	for range n {
		out = append(out, chance(r))
	}
	return out
}

// places are numbers near 0, near the prime, near the powers of 2 at which words and numbers end, and near those that are small; each with the highest bit, too.
func places() [][]byte {
	var out [][]byte
	for _, n := range append([]*big.Int{prime, power(64), power(128), power(192), power(254), power(255)}, small...) {
		for d := range int64(44) {
			if m := plus(n, d-22); m.Sign() >= 0 && m.BitLen() <= 255 {
				out = append(out, inBytes(m), inBytes(m.Add(m, power(255))))
			}
		}
	}
	return out
}

// library is what Go's own X25519 makes of a secret and a number: nought of what it refuses.
func library(t *testing.T, k, u []byte) []byte {
	t.Helper()
	secret, err := ecdh.X25519().NewPrivateKey(k)
	if err != nil {
		t.Fatal(err)
	}
	public, err := ecdh.X25519().NewPublicKey(u)
	if err != nil {
		t.Fatal(err)
	}
	out, err := secret.ECDH(public)
	if err != nil {
		return make([]byte, 32)
	}
	return out
}

// wants tells of an answer that is not what it must be.
func wants(t *testing.T, name string, got []byte, e api.Errno, want []byte, wantE api.Errno, args ...[]byte) {
	t.Helper()
	if !bytes.Equal(got, want) || e != wantE {
		t.Errorf("%s of %x: %x, error %d; want %x, error %d", name, args, got, e, want, wantE)
	}
}

// agrees holds Mult and Shared of a secret and a number against the library.
func agrees(t *testing.T, k, u []byte) {
	t.Helper()
	want := library(t, k, u)
	got, e := ladder.Mult(k, u)
	wants(t, "Mult", got, e, want, api.OK, k, u)
	got, e = ladder.Shared(k, u)
	if bytes.Equal(want, make([]byte, 32)) {
		wants(t, "Shared", got, e, nil, api.ErrZero, k, u)
		return
	}
	wants(t, "Shared", got, e, want, api.OK, k, u)
}

// P5.1: Clamp, of all bytes at both ends.
func TestClamp(t *testing.T) {
	r := rand.New(rand.NewPCG(5, 1))
	for i := range 256 {
		for j := range 256 {
			k := chance(r)
			k[0], k[31] = byte(i), byte(j)
			want := bytes.Clone(k)
			want[0], want[31] = byte(i/8*8), byte(64+j%64)
			got, e := ladder.Clamp(k)
			wants(t, "Clamp", got, e, want, api.OK, k)
			again, e := ladder.Clamp(got)
			wants(t, "Clamp", again, e, want, api.OK, got)
		}
	}
}

// P5.1: Clamp, by bytes that are written out.
func TestClampWritten(t *testing.T) {
	for _, c := range []struct{ k, want string }{
		{"0000000000000000000000000000000000000000000000000000000000000000", "0000000000000000000000000000000000000000000000000000000000000040"},
		{"ffffffffffffffffffffffffffffffffffffffffffffffffffffffffffffffff", "f8ffffffffffffffffffffffffffffffffffffffffffffffffffffffffffff7f"},
		{"a546e36bf0527c9d3b16154b82465edd62144c0ac1fc5a18506a2244ba449ac4", "a046e36bf0527c9d3b16154b82465edd62144c0ac1fc5a18506a2244ba449a44"},
	} {
		got, e := ladder.Clamp(un(c.k))
		wants(t, "Clamp", got, e, un(c.want), api.OK, un(c.k))
	}
}

// P5.1: too few bytes, and too many, whatever they are; also beside what else would be refused.
func TestLengths(t *testing.T) {
	right := [][]byte{nine, make([]byte, 32), bytes.Repeat([]byte{255}, 32)}
	for _, n := range []int{0, 1, 8, 30, 31, 33, 34, 64, 1000} {
		for _, bad := range [][]byte{make([]byte, n, n+64), bytes.Repeat([]byte{255}, n), bytes.Repeat([]byte{9}, n), nil} {
			got, e := ladder.Clamp(bad)
			wants(t, "Clamp", got, e, nil, api.ErrArg, bad)
			got, e = ladder.Public(bad)
			wants(t, "Public", got, e, nil, api.ErrArg, bad)
			for _, call := range []func(k, u []byte) ([]byte, api.Errno){ladder.Mult, ladder.Shared} {
				for _, good := range right {
					got, e = call(bad, good)
					wants(t, "Mult or Shared", got, e, nil, api.ErrArg, bad, good)
					got, e = call(good, bad)
					wants(t, "Mult or Shared", got, e, nil, api.ErrArg, good, bad)
				}
				got, e = call(bad, bad)
				wants(t, "Mult or Shared", got, e, nil, api.ErrArg, bad, bad)
			}
		}
	}
}

// P5.1: Mult and Shared, by RFC 7748's own numbers (5.2) and the document's.
func TestMultWritten(t *testing.T) {
	for _, c := range []struct{ k, u, want string }{
		{"a546e36bf0527c9d3b16154b82465edd62144c0ac1fc5a18506a2244ba449ac4", "e6db6867583030db3594c1a424b15f7c726624ec26b3353b10a903a6d0ab1c4c", "c3da55379de9c6908e94ea4df28d084f32eccf03491c71f754b4075577a28552"},
		{"4b66e9d4d1b4673c5ad22691957d6af5c11b6421e0ea01d42ca4169e7918ba0d", "e5210f12786811d3f4b7959d0538ae2c31dbe7106fc03c3efc4cd549c715a493", "95cbde9476e8907d7aade45cb4b873f88b595a68799fa152e6f8f7647aac7957"},
		{"0900000000000000000000000000000000000000000000000000000000000000", "0900000000000000000000000000000000000000000000000000000000000000", "422c8e7a6227d7bca1350b3e2bb7279f7897b87bb6854b783c60e80311ae3079"},
	} {
		got, e := ladder.Mult(un(c.k), un(c.u))
		wants(t, "Mult", got, e, un(c.want), api.OK, un(c.k), un(c.u))
		got, e = ladder.Shared(un(c.k), un(c.u))
		wants(t, "Shared", got, e, un(c.want), api.OK, un(c.k), un(c.u))
	}
}

// P5.1: Mult a thousand times over, as RFC 7748 (5.2) has it.
func TestMultMany(t *testing.T) {
	k, u := nine, nine
	for range 1000 {
		out, e := ladder.Mult(k, u)
		if e != api.OK {
			t.Fatal("Mult: error", e)
		}
		k, u = out, k
	}
	wants(t, "Mult, a thousand times,", k, api.OK, un("684cf59ba83309552800ef566f2f4d3c1c3887c49360e3875f2eb94d99532c51"), api.OK)
}

// P5.1: Mult and Shared, of each bit of a secret, and of all kinds of numbers.
func TestMult(t *testing.T) {
	r := rand.New(rand.NewPCG(5, 2))
	for _, k := range secrets(r, 300) {
		agrees(t, k, nine)
		agrees(t, k, chance(r))
	}
	for _, u := range places() {
		agrees(t, chance(r), u)
	}
	for i := range 256 {
		agrees(t, chance(r), flipped(make([]byte, 32), i))
		agrees(t, chance(r), flipped(bytes.Repeat([]byte{255}, 32), i))
	}
}

// P5.1: a number that is not below the prime counts as what is left of it.
func TestMultBeyond(t *testing.T) {
	r := rand.New(rand.NewPCG(5, 3))
	for d := range int64(19) {
		k := chance(r)
		want, e := ladder.Mult(k, inBytes(big.NewInt(d)))
		got, f := ladder.Mult(k, inBytes(plus(prime, d)))
		wants(t, "Mult", got, f, want, e, k, inBytes(plus(prime, d)))
	}
}

// P5.1: Public is Mult of the secret and 9.
func TestPublic(t *testing.T) {
	r := rand.New(rand.NewPCG(5, 4))
	for _, k := range secrets(r, 100) {
		got, e := ladder.Public(k)
		wants(t, "Public", got, e, library(t, k, nine), api.OK, k)
		want, f := ladder.Mult(k, nine)
		wants(t, "Public", got, e, want, f, k)
	}
}

// P5.1: what is shared is refused, if it is 0; Mult answers it.
func TestSharedZero(t *testing.T) {
	r := rand.New(rand.NewPCG(5, 5))
	nought := make([]byte, 32)
	for _, n := range append([]*big.Int{prime, plus(prime, 1)}, small...) {
		for _, u := range [][]byte{inBytes(n), flipped(inBytes(n), 255)} {
			for _, k := range [][]byte{chance(r), chance(r), make([]byte, 32), bytes.Repeat([]byte{255}, 32)} {
				got, e := ladder.Shared(k, u)
				wants(t, "Shared", got, e, nil, api.ErrZero, k, u)
				got, e = ladder.Mult(k, u)
				wants(t, "Mult", got, e, nought, api.OK, k, u)
			}
		}
	}
	for _, n := range []*big.Int{big.NewInt(2), plus(prime, -2), plus(prime, 2), plus(small[2], 1), plus(small[3], -1)} {
		if got, e := ladder.Shared(chance(r), inBytes(n)); e != api.OK || len(got) != 32 || bytes.Equal(got, nought) {
			t.Errorf("Shared of %x: %x, error %d", n, got, e)
		}
	}
}

// P5.1: what is shared is held against 0 as a whole: that it has bytes of nought is no fault.
func TestSharedNearZero(t *testing.T) {
	r := rand.New(rand.NewPCG(5, 6))
	first, last := 0, 0
	for range 2000 {
		k, u := chance(r), chance(r)
		got, e := ladder.Shared(k, u)
		if e != api.OK {
			t.Fatalf("Shared of %x and %x: error %d", k, u, e)
		}
		if got[0] == 0 {
			first++
		}
		if got[31] == 0 {
			last++
		}
	}
	if first == 0 || last == 0 {
		t.Error("too few had a nought at an end:", first, last)
	}
}

// both holds what two share against each other, and answers it.
func both(t *testing.T, j, k []byte) []byte {
	t.Helper()
	a, e := ladder.Public(j)
	b, f := ladder.Public(k)
	x, g := ladder.Shared(j, b)
	y, h := ladder.Shared(k, a)
	if e != api.OK || f != api.OK || g != api.OK || h != api.OK || len(x) != 32 || !bytes.Equal(x, y) {
		t.Errorf("shared by %x and %x: %x, %x, errors %d, %d, %d, %d", j, k, x, y, e, f, g, h)
	}
	return x
}

// P5.2: two share one number.
func TestShare(t *testing.T) {
	r := rand.New(rand.NewPCG(5, 7))
	l := secrets(r, 100)
	for i := range len(l) - 1 {
		both(t, l[i], l[i+1])
	}
	for range 50 {
		k := chance(r)
		both(t, k, k)
	}
}

// P5.1, P5.2: Public and Shared, by RFC 7748's own numbers (6.1).
func TestShareWritten(t *testing.T) {
	j, k := un("77076d0a7318a57d3c16c17251b26645df4c2f87ebc0992ab177fba51db92c2a"), un("5dab087e624a8a4b79e17f8b83800ee66f3bb1292618b6fd1c2f8b27ff88e0eb")
	got, e := ladder.Public(j)
	wants(t, "Public", got, e, un("8520f0098930a754748b7ddcb43ef75a0dbf3a0d26381af4eba4a98eaa9b4e6a"), api.OK, j)
	got, e = ladder.Public(k)
	wants(t, "Public", got, e, un("de9edb7d7b7dc1b4d35b61c2ece435373f8343c85b78674dadfc7e146f882b4f"), api.OK, k)
	wants(t, "Shared", both(t, j, k), api.OK, un("4a5d9d5ba4ce2de1728e3bf480350f25e07e21c947d19e3376f09b3c1e161742"), api.OK, j, k)
}

// P5.3: the highest bit of u, and the bits that are clamped, change nothing; each other bit does.
func TestBits(t *testing.T) {
	r := rand.New(rand.NewPCG(5, 8))
	clamped := []int{0, 1, 2, 254, 255}
	for range 2 {
		k, u := chance(r), chance(r)
		public, e := ladder.Public(k)
		shared, f := ladder.Shared(k, u)
		if e != api.OK || f != api.OK {
			t.Fatalf("Public and Shared of %x and %x: errors %d, %d", k, u, e, f)
		}
		for bit := range 256 {
			nothing := slices.Contains(clamped, bit)
			other := flipped(k, bit)
			if got, e := ladder.Public(other); e != api.OK || bytes.Equal(got, public) != nothing {
				t.Errorf("Public of %x, bit %d changed: %x, error %d", k, bit, got, e)
			}
			if got, e := ladder.Shared(other, u); e != api.OK || bytes.Equal(got, shared) != nothing {
				t.Errorf("Shared of %x, bit %d changed, and %x: %x, error %d", k, bit, u, got, e)
			}
			if got, e := ladder.Mult(k, flipped(u, bit)); e != api.OK || bytes.Equal(got, shared) != (bit == 255) {
				t.Errorf("Mult of %x and %x, bit %d changed: %x, error %d", k, u, bit, got, e)
			}
		}
	}
}

// P5.3: all that the clamped bits can be, at once, with both of the highest bits of u.
func TestBitsTogether(t *testing.T) {
	r := rand.New(rand.NewPCG(5, 9))
	k, u := chance(r), chance(r)
	want := library(t, k, u)
	for i := range 64 {
		other, v := bytes.Clone(k), bytes.Clone(u)
		other[0] = other[0]&0xf8 | byte(i%8)
		other[31] = other[31]&0x3f | byte(i/8%4<<6)
		v[31] = v[31]&0x7f | byte(i/32<<7)
		got, e := ladder.Mult(other, v)
		wants(t, "Mult", got, e, want, api.OK, other, v)
	}
}

// What is handed in is not changed, the room behind its end included; an answer is new memory.
func TestMemory(t *testing.T) {
	k, u := inBytes(told("31029842492115040904895560451863089656472772604678260265531221036453811406496")), inBytes(plus(power(256), -5))
	calls := []func() ([]byte, api.Errno){
		func() ([]byte, api.Errno) { return ladder.Clamp(k) },
		func() ([]byte, api.Errno) { return ladder.Mult(k, u) },
		func() ([]byte, api.Errno) { return ladder.Mult(k, k) },
		func() ([]byte, api.Errno) { return ladder.Public(k) },
		func() ([]byte, api.Errno) { return ladder.Shared(k, u) },
		func() ([]byte, api.Errno) { return ladder.Shared(u, make([]byte, 32)) },
	}
	beforeK, beforeU := bytes.Clone(k[:cap(k)]), bytes.Clone(u[:cap(u)])
	for i, call := range calls {
		first, e := call()
		want := bytes.Clone(first)
		clear(first[:cap(first)])
		second, f := call()
		wants(t, "a call once more", second, f, want, e)
		if !bytes.Equal(k[:cap(k)], beforeK) || !bytes.Equal(u[:cap(u)], beforeU) {
			t.Fatal("what was handed in has changed by call", i)
		}
	}
}

// An answer does not change when what was handed in does.
func TestKept(t *testing.T) {
	k := bytes.Clone(nine)
	got, e := ladder.Clamp(k)
	want := bytes.Clone(got)
	clear(k)
	wants(t, "Clamp, as it was answered,", got, e, want, api.OK)
}
