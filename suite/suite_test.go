package suite_test

import (
	"bytes"
	"crypto/ecdh"
	"crypto/ed25519"
	"crypto/hkdf"
	"crypto/sha256"
	"encoding/binary"
	"encoding/hex"
	"math"
	"math/rand/v2"
	"slices"
	"strings"
	"testing"

	"sealwax/aead"
	"sealwax/api"
	"sealwax/ladder"
	"sealwax/sign"
	"sealwax/suite"
)

// The two that there are answer what is asked.
var (
	_ suite.Suite = (*suite.Real)(nil)
	_ suite.Suite = (*suite.Ideal)(nil)
)

// ones is n bytes c.
func ones(n int, c byte) []byte { return bytes.Repeat([]byte{c}, n) }

// unhex is the bytes whose digits they are, blanks aside.
func unhex(s string) []byte {
	b, err := hex.DecodeString(strings.ReplaceAll(s, " ", ""))
	if err != nil {
		panic(err)
	}
	return b
}

// little is a number in eight bytes, the lowest first.
func little(n int) []byte { return binary.LittleEndian.AppendUint64(nil, uint64(n)) }

// some is n bytes of chance.
func some(r *rand.Rand, n int) []byte {
	b := make([]byte, n)
	for i := range b {
		b[i] = byte(r.Uint32())
	}
	return b
}

// spoil writes over a list, and over the room behind it.
func spoil(l ...[]byte) {
	for _, b := range l {
		b = b[:cap(b)]
		for i := range b {
			b[i] ^= 0xff
		}
	}
}

// roomy is a copy of some bytes with room behind them, and that room.
func roomy(b []byte) ([]byte, []byte) {
	l := append(append(make([]byte, 0, len(b)+100), b...), ones(100, 0xa5)...)
	return l[:len(b)], l[len(b):]
}

// each calls a test with either suite.
func each(t *testing.T, f func(t *testing.T, s suite.Suite)) {
	t.Run("real", func(t *testing.T) { f(t, suite.NewReal([]byte("a seed"))) })
	t.Run("ideal", func(t *testing.T) { f(t, suite.NewIdeal()) })
}

// wrong is how many bytes neither a secret nor a key has.
var wrong = []int{0, 1, 16, 31, 33, 48, 64, 65, 1000}

// derived is 32 bytes by the library's HKDF, without a salt.
func derived(t *testing.T, key, info []byte) []byte {
	b, err := hkdf.Key(sha256.New, key, nil, string(info), 32)
	if err != nil {
		t.Fatal(err)
	}
	return b
}

// P19.1: the k-th Draw is derived of the seed, for "draw" and k; whatever else is asked does not count.
func TestRealDraw(t *testing.T) {
	for _, n := range []int{0, 1, 4, 31, 32, 33, 63, 64, 65, 100, 5000} {
		seed := ones(n, byte(n))
		r := suite.NewReal(seed)
		spoil(seed) // it keeps its own
		seed = ones(n, byte(n))
		for k := 1; k <= 300; k++ {
			got := r.Draw()
			if !bytes.Equal(got, derived(t, seed, append([]byte("draw"), little(k)...))) {
				t.Fatal(n, k, got)
			}
			r.Hash(got)
			r.Public(got)
			r.Derive(got, []byte("draw"))
			r.Seal(got, k, nil, nil)
			r.Open(got, k, nil, nil)
			spoil(got)
		}
	}
	r := suite.NewReal(nil)
	for range 1<<16 + 1 {
		r.Draw()
	}
	if got := r.Draw(); !bytes.Equal(got, derived(t, nil, unhex("64726177 0200010000000000"))) {
		t.Error("behind 65537:", got)
	}
}

// P19.1: by digits that were worked out elsewhere.
func TestRealDrawDigits(t *testing.T) {
	r := suite.NewReal([]byte("seed"))
	for i, want := range []string{
		"2e2f045f4533a4ba731a249aecb105e1bf477aed7b9e12ef2fe9875d325d0174",
		"56ebb2b862e88cc3077eec0f3ccb2fefb0d2c30d55aaa652510846ccf2455bb5",
		"72d17c3a8fe4a4e00de3e60c890ac17f82da60805bf3299f729f54dafdf60325",
	} {
		if got := hex.EncodeToString(r.Draw()); got != want {
			t.Error(i+1, got)
		}
	}
}

// P19.1: two of one seed draw the same, and know nothing of one another; one of another seed draws other ones.
func TestRealSeeds(t *testing.T) {
	a, b, c := suite.NewReal([]byte("seed")), suite.NewReal([]byte("seed")), suite.NewReal([]byte("seeds"))
	var one, two [][]byte
	seen := map[string]int{}
	for k := range 60 {
		one = append(one, a.Draw())
		if k%3 > 0 {
			two = append(two, b.Draw())
		}
		seen[string(one[k])]++
		seen[string(c.Draw())]++
	}
	for k, x := range two {
		if !bytes.Equal(x, one[k]) {
			t.Error(k, x)
		}
	}
	if len(seen) != 120 {
		t.Error("some are alike:", len(seen))
	}
}

// P19.1: each call is its layer's, held against the library.
func TestRealCalls(t *testing.T) {
	rnd := rand.New(rand.NewPCG(19, 1))
	r := suite.NewReal([]byte("seed"))
	for n := range 80 {
		j, k, b, other := some(rnd, 32), some(rnd, 32), some(rnd, n*3), some(rnd, n)
		sum := sha256.Sum256(b)
		if got := r.Hash(b); !bytes.Equal(got, sum[:]) {
			t.Fatal("Hash:", n, got)
		}
		if got := r.Derive(j, b); !bytes.Equal(got, derived(t, j, b)) {
			t.Fatal("Derive:", n, got)
		}
		mine, _ := ecdh.X25519().NewPrivateKey(j)
		theirs, _ := ecdh.X25519().NewPrivateKey(k)
		both, _ := mine.ECDH(theirs.PublicKey())
		if got := r.Public(k); !bytes.Equal(got, theirs.PublicKey().Bytes()) {
			t.Fatal("Public:", n, got)
		}
		if got, e := r.Shared(j, r.Public(k)); !bytes.Equal(got, both) || e != api.OK {
			t.Fatal("Shared:", n, got, e)
		}
		who := ed25519.NewKeyFromSeed(j)
		sig := ed25519.Sign(who, b)
		if got := r.Signer(j); !bytes.Equal(got, who[32:]) {
			t.Fatal("Signer:", n, got)
		}
		if got := r.Sign(j, b); !bytes.Equal(got, sig) {
			t.Fatal("Sign:", n, got)
		}
		if !r.Verify(who[32:], b, sig) || r.Verify(who[32:], other, sig) != bytes.Equal(b, other) || r.Verify(r.Signer(k), b, sig) {
			t.Fatal("Verify:", n)
		}
		box, _ := aead.Seal(k, append(make([]byte, 4), little(n)...), other, b)
		if got := r.Seal(k, n, other, b); !bytes.Equal(got, box) {
			t.Fatal("Seal:", n, got)
		}
		if got, e := r.Open(k, n, other, box); !bytes.Equal(got, b) || e != api.OK {
			t.Fatal("Open:", n, got, e)
		}
	}
}

// P19.1: the number stands in the nonce's last eight bytes, the lowest first, behind four noughts.
func TestRealNonce(t *testing.T) {
	r := suite.NewReal(nil)
	key, other, text := ones(32, 7), []byte("other"), []byte("a text")
	for _, c := range []struct {
		n     int
		nonce string
	}{
		{0, "00000000 0000000000000000"},
		{1, "00000000 0100000000000000"},
		{255, "00000000 ff00000000000000"},
		{256, "00000000 0001000000000000"},
		{1 << 20, "00000000 0000100000000000"},
		{1 << 32, "00000000 0000000001000000"},
		{0x0102030405060708, "00000000 0807060504030201"},
		{math.MaxInt, "00000000 ffffffffffffff7f"},
	} {
		box, _ := aead.Seal(key, unhex(c.nonce), other, text)
		if got := r.Seal(key, c.n, other, text); !bytes.Equal(got, box) {
			t.Error("Seal:", c.n, got)
		}
		if got, e := r.Open(key, c.n, other, box); string(got) != "a text" || e != api.OK {
			t.Error("Open:", c.n, got, e)
		}
	}
}

// P19.1: Shared has ladder's errors.
func TestRealShared(t *testing.T) {
	r := suite.NewReal(nil)
	j := r.Draw()
	for _, n := range wrong {
		if got, e := r.Shared(j, ones(n, 9)); len(got) != 0 || e != api.ErrArg {
			t.Error("a public key of", n, got, e)
		}
	}
	for _, s := range []string{
		"0000000000000000000000000000000000000000000000000000000000000000",
		"0100000000000000000000000000000000000000000000000000000000000000",
		"e0eb7a7c3b41b8ae1656e3faf19fc46ada098deb9c32b1fd866205165f49b800",
		"5f9c95bca3508c24b1d0b1559c83ef5b04445cc4581c8e86d8224eddd09f1157",
		"ecffffffffffffffffffffffffffffffffffffffffffffffffffffffffffff7f",
		"edffffffffffffffffffffffffffffffffffffffffffffffffffffffffffff7f",
		"eeffffffffffffffffffffffffffffffffffffffffffffffffffffffffffff7f",
	} {
		if got, e := r.Shared(j, unhex(s)); len(got) != 0 || e != api.ErrZero {
			t.Error(s, got, e)
		}
		if got, e := r.Shared(j[1:], unhex(s)); len(got) != 0 || e != api.ErrArg {
			t.Error("both wrong:", s, got, e)
		}
	}
	rnd := rand.New(rand.NewPCG(19, 2))
	for range 30 {
		u := some(rnd, 32)
		want, f := ladder.Shared(j, u)
		if got, e := r.Shared(j, u); !bytes.Equal(got, want) || e != f {
			t.Error(u, got, e)
		}
	}
}

// P19.1: Verify is strict, as layer 9 is: a number of L more, a small key, changed bits.
func TestRealVerify(t *testing.T) {
	r := suite.NewReal([]byte("seed"))
	j, b := r.Draw(), []byte("some bytes")
	key, sig := r.Signer(j), r.Sign(j, b)
	over := bytes.Clone(sig)
	carry := 0
	for i, x := range unhex("edd3f55c1a631258d69cf7a2def9de1400000000000000000000000000000010") {
		carry += int(over[32+i]) + int(x)
		over[32+i] = byte(carry)
		carry >>= 8
	}
	if r.Verify(key, b, over) {
		t.Error("S and L together")
	}
	small := unhex("0100000000000000000000000000000000000000000000000000000000000000")
	if forged := append(bytes.Clone(small), make([]byte, 32)...); r.Verify(small, b, forged) {
		t.Error("a small key")
	}
	for i := range 64 * 8 {
		bad := bytes.Clone(sig)
		bad[i/8] ^= 1 << (i % 8)
		if r.Verify(key, b, bad) {
			t.Fatal("bit", i)
		}
	}
	for i := range 32 {
		bad := bytes.Clone(key)
		bad[i] ^= 1
		if r.Verify(bad, b, sig) != (sign.Verify(bad, b, sig) == api.OK) || r.Verify(bad, b, sig) {
			t.Fatal("a key's byte", i)
		}
	}
}

// P19.1, P19.2: what has another length than a secret, or a key, gives nothing; so does a number below 0.
func TestWrong(t *testing.T) {
	each(t, func(t *testing.T, s suite.Suite) {
		j := s.Draw()
		public, key, box := s.Public(j), s.Signer(j), s.Seal(j, 1, nil, []byte("text"))
		sig := s.Sign(j, nil)
		for _, n := range wrong {
			b := bytes.Repeat(j, 40)[:n]
			for i, got := range [][]byte{s.Public(b), s.Derive(b, nil), s.Derive(b, j), s.Signer(b), s.Sign(b, nil), s.Sign(b, j), s.Seal(b, 1, nil, nil), s.Seal(b, -1, j, j)} {
				if len(got) != 0 {
					t.Error(n, "bytes:", i, got)
				}
			}
			for _, p := range [][]byte{public, nil, make([]byte, 32), b} {
				if got, e := s.Shared(b, p); len(got) != 0 || e != api.ErrArg {
					t.Error("Shared:", n, p, got, e)
				}
			}
			for _, x := range [][]byte{box, nil, b, box[:15]} {
				for _, number := range []int{1, 0, -1} {
					if got, e := s.Open(b, number, nil, x); len(got) != 0 || e != api.ErrArg {
						t.Error("Open:", n, number, got, e)
					}
				}
			}
			if s.Verify(b, nil, sig) || s.Verify(key, nil, bytes.Repeat(sig, 20)[:n]) != (n == 64) || s.Verify(b, b, b) {
				t.Error("Verify:", n)
			}
		}
		for _, n := range []int{-1, -2, -256, math.MinInt} {
			if got := s.Seal(j, n, nil, nil); len(got) != 0 {
				t.Error("Seal:", n, got)
			}
			for _, x := range [][]byte{box, nil, make([]byte, 20)} {
				if got, e := s.Open(j, n, nil, x); len(got) != 0 || e != api.ErrArg {
					t.Error("Open:", n, got, e)
				}
			}
		}
	})
}

// P19.1, P19.2: a box that is none is told by ErrSeal, however short it is, or whatever of it is another one.
func TestSpoilt(t *testing.T) {
	each(t, func(t *testing.T, s suite.Suite) {
		j, k := s.Draw(), s.Draw()
		for _, text := range []string{"", "a", "a text", strings.Repeat("t", 100)} {
			other := []byte("other")
			box := s.Seal(j, 5, other, []byte(text))
			if len(box) != len(text)+16 {
				t.Fatal("length:", len(box))
			}
			refuse := func(key []byte, n int, other, box []byte, what string, at int) {
				if got, e := s.Open(key, n, other, box); len(got) != 0 || e != api.ErrSeal {
					t.Fatal(what, at, len(text), got, e)
				}
			}
			for i := range box {
				refuse(j, 5, other, box[:i], "cut to", i)
				for bit := range 8 {
					bad := bytes.Clone(box)
					bad[i] ^= 1 << bit
					refuse(j, 5, other, bad, "changed at", i)
				}
			}
			for _, n := range []int{0, 1, 4, 6, 5 + 1<<8, 5 + 1<<56, math.MaxInt} {
				refuse(j, n, other, box, "number", n)
			}
			refuse(k, 5, other, box, "another key", 0)
			refuse(j, 5, nil, box, "no other bytes", 0)
			refuse(j, 5, other[:4], box, "fewer other bytes", 0)
			refuse(j, 5, append(other[:5:5], 0), box, "more other bytes", 0)
			refuse(j, 5, other, append(box[:len(box):len(box)], 0), "more", 0)
			refuse(j, 5, other, box[1:], "without the first", 0)
			refuse(j, 5, other, nil, "nothing", 0)
			if got, e := s.Open(j, 5, other, box); string(got) != text || e != api.OK {
				t.Error("at last:", got, e)
			}
		}
	})
}

// P19.4: in both: sealed and opened, signed and verified, shared.
func TestFollows(t *testing.T) {
	rnd := rand.New(rand.NewPCG(19, 3))
	each(t, func(t *testing.T, s suite.Suite) {
		secrets := [][]byte{s.Draw(), s.Draw(), s.Draw(), ones(32, 0), ones(32, 255), some(rnd, 32)}
		for i, j := range secrets {
			for n, k := range secrets {
				a, e := s.Shared(j, s.Public(k))
				b, f := s.Shared(k, s.Public(j))
				if len(a) != 32 || !bytes.Equal(a, b) || e != api.OK || f != api.OK {
					t.Error("Shared:", i, n, a, e, b, f)
				}
			}
			if i > 0 && bytes.Equal(j, secrets[i-1]) {
				t.Error("drawn twice:", j)
			}
			for n := range 20 {
				text, other, info := some(rnd, n*n), some(rnd, n), some(rnd, n)
				key := s.Derive(j, info)
				box := s.Seal(key, n, other, text)
				got, e := s.Open(key, n, other, box)
				if len(key) != 32 || len(box) != len(text)+16 || !bytes.Equal(got, text) || e != api.OK {
					t.Error("Open:", i, n, got, e)
				}
				sig := s.Sign(j, text)
				if len(sig) != 64 || len(s.Signer(j)) != 32 || !s.Verify(s.Signer(j), text, sig) {
					t.Error("Verify:", i, n)
				}
				if s.Verify(s.Signer(secrets[(i+1)%len(secrets)]), text, sig) || s.Verify(s.Signer(j), append(text, 0), sig) {
					t.Error("Verify of another one:", i, n)
				}
				if !bytes.Equal(s.Hash(text), s.Hash(text)) || !bytes.Equal(s.Derive(j, info), key) || !bytes.Equal(s.Sign(j, text), sig) {
					t.Error("twice:", i, n)
				}
			}
		}
	})
}

// P19.1: nothing is said of a Real that NewReal did not make, but that no call of it panics.
func TestNoReal(t *testing.T) {
	for _, r := range []*suite.Real{nil, {}} {
		j := ones(32, 1)
		r.Hash(j)
		r.Verify(r.Signer(j), j, r.Sign(j, j))
		r.Shared(j, r.Public(j))
		r.Open(r.Derive(j, j), 1, j, r.Seal(j, 1, j, j))
		if got := r.Draw(); len(got) != 0 {
			t.Error("Draw:", got)
		}
	}
}

// Examples 1 of the chapter, and a term of each kind behind it, told by hand (P19.2).
func TestIdealByHand(t *testing.T) {
	s := suite.NewIdeal()
	if s.Len() != 0 || len(s.Terms()) != 0 {
		t.Error("at first:", s.Len(), s.Terms())
	}
	tell := func(what string, got []byte, beginning string, size int) {
		t.Helper()
		want := append(unhex(beginning), make([]byte, size-len(beginning)/2)...)
		if !bytes.Equal(got, want) {
			t.Error(what, got)
		}
	}
	one := s.Draw()
	tell("Draw", one, "7301", 32)
	tell("Hash", s.Hash([]byte("a")), "6802", 32)
	tell("Hash again", s.Hash([]byte("a")), "6802", 32)
	two := s.Draw()
	tell("Draw", two, "7303", 32)
	tell("Public", s.Public(one), "7004", 32)
	tell("Public of another", s.Public(two), "7005", 32)
	for range 2 {
		both, e := s.Shared(two, s.Public(one))
		tell("Shared", both, "6406", 32)
		if e != api.OK {
			t.Error(e)
		}
		both, _ = s.Shared(one, s.Public(two))
		tell("Shared", both, "6406", 32)
		tell("Derive", s.Derive(both, []byte("for")), "6b07", 32)
		tell("Signer", s.Signer(two), "7608", 32)
		tell("Sign", s.Sign(two, []byte("bytes")), "6709", 64)
		tell("Seal", s.Seal(both, 258, []byte("other"), []byte("text")), "620a", 20)
		tell("Seal of nothing", s.Seal(both, 0, nil, nil), "620b", 16)
		tell("Hash of nothing", s.Hash(nil), "680c", 32)
		tell("Hash of nothing", s.Hash([]byte{}), "680c", 32)
	}
	tell("Draw", s.Draw(), "730d", 32)
	want := []suite.Term{
		{'s', [][]byte{unhex("0100000000000000")}},
		{'h', [][]byte{[]byte("a")}},
		{'s', [][]byte{unhex("0200000000000000")}},
		{'p', [][]byte{one}},
		{'p', [][]byte{two}},
		{'d', [][]byte{one, two}},
		{'k', [][]byte{append(unhex("6406"), make([]byte, 30)...), []byte("for")}},
		{'v', [][]byte{two}},
		{'g', [][]byte{two, []byte("bytes")}},
		{'b', [][]byte{append(unhex("6406"), make([]byte, 30)...), unhex("0201000000000000"), []byte("other"), []byte("text")}},
		{'b', [][]byte{append(unhex("6406"), make([]byte, 30)...), make([]byte, 8), nil, nil}},
		{'h', [][]byte{nil}},
		{'s', [][]byte{unhex("0300000000000000")}},
	}
	if got := s.Terms(); !same(got, want) || s.Len() != 13 {
		t.Error("Terms:", s.Len(), got)
	}
}

// same tells whether two lists of terms are alike.
func same(a, b []suite.Term) bool {
	return slices.EqualFunc(a, b, func(x, y suite.Term) bool {
		return x.Kind == y.Kind && slices.EqualFunc(x.Parts, y.Parts, bytes.Equal)
	})
}

// P19.2: the number in a name has eight bytes, the lowest first; names of terms past 255 and past 65535 are found as others are.
func TestIdealNumbers(t *testing.T) {
	s := suite.NewIdeal()
	j := s.Draw()
	for i := range 1<<16 - 10 {
		s.Hash(little(i))
	}
	for n := 1<<16 - 8; n < 1<<16+8; n++ {
		text := little(n)
		box := s.Seal(j, n, nil, text)
		want := append([]byte{'b'}, little(n)...)
		if !bytes.Equal(box, append(want, make([]byte, 15)...)) || s.Len() != n {
			t.Fatal(n, s.Len(), box)
		}
		if got, e := s.Open(j, n, nil, box); !bytes.Equal(got, text) || e != api.OK {
			t.Error(n, got, e)
		}
	}
	for _, n := range []int{255, 256, 257, 65000} {
		if got := s.Hash(little(n - 2)); !bytes.Equal(got[:9], append([]byte{'h'}, little(n)...)) {
			t.Error(n, got)
		}
	}
}

// P19.2, P19.5: only what just that call answered is opened, verified or shared: no other kind's name, no changed one, none of a number that is not there.
func TestIdealForged(t *testing.T) {
	s := suite.NewIdeal()
	j, k := s.Draw(), s.Draw()
	public, signer, sig, text := s.Public(j), s.Signer(j), s.Sign(j, []byte("b")), make([]byte, 48)
	// This box's name is as long as a signature's; of a text of 16 it is as long as a key's.
	box, short := s.Seal(j, 1, nil, text), s.Seal(j, 1, nil, text[:16])
	all := [][]byte{j, k, public, signer, sig, box, short, s.Hash(text), s.Derive(j, nil), s.Public(k), s.Signer(k), s.Sign(k, nil)}
	terms := s.Terms()
	refuse := func(x []byte) {
		t.Helper()
		if got, e := s.Shared(k, x); (len(got) != 0 || e != api.ErrZero) && !bytes.Equal(x, public) && !bytes.Equal(x, all[9]) {
			t.Error("Shared:", x, got, e)
		}
		if s.Verify(x, []byte("b"), sig) != bytes.Equal(x, signer) {
			t.Error("Verify of a key:", x)
		}
		if s.Verify(signer, []byte("b"), x) != bytes.Equal(x, sig) || s.Verify(signer, nil, x) {
			t.Error("Verify:", x)
		}
		got, e := s.Open(j, 1, nil, x)
		switch {
		case bytes.Equal(x, box):
			if len(got) != 48 || e != api.OK {
				t.Error("Open:", x, got, e)
			}
		case bytes.Equal(x, short):
			if len(got) != 16 || e != api.OK {
				t.Error("Open:", x, got, e)
			}
		case len(got) != 0 || e != api.ErrSeal:
			t.Error("Open:", x, got, e)
		}
	}
	for _, x := range all {
		refuse(x)
		for i := range x {
			refuse(x[:i])
			refuse(x[i:])
			for c := range 256 {
				bad := bytes.Clone(x)
				bad[i] = byte(c)
				refuse(bad)
			}
		}
		refuse(append(bytes.Clone(x), 0))
		refuse(append(bytes.Clone(x), x...))
		// Each name in each other length.
		for n := range 70 {
			refuse(append(bytes.Clone(x), make([]byte, 70)...)[:n])
		}
		for _, n := range []uint64{0, 13, 14, 1 << 8, 1 << 32, 1<<63 - 1, 1 << 63, 1<<63 + 1, math.MaxUint64} {
			refuse(slices.Concat(x[:1], binary.LittleEndian.AppendUint64(nil, n), x[9:]))
		}
	}
	// What Shared made stands behind; nothing else was learnt.
	if got := s.Terms(); !same(got[:len(terms)], terms) || len(got) != len(terms)+2 || got[12].Kind != 'd' || got[13].Kind != 'd' {
		t.Error("learnt:", got)
	}
}

// P19.2: Verify asks for no term: a signature whose signer's key was never asked for is none's.
func TestIdealNoSigner(t *testing.T) {
	s := suite.NewIdeal()
	j := s.Draw()
	sig := s.Sign(j, nil)
	key := append(unhex("7603"), make([]byte, 30)...) // as the signer's key will be
	if s.Verify(key, nil, sig) || s.Len() != 2 {
		t.Error("too early:", s.Len())
	}
	if got := s.Signer(j); !bytes.Equal(got, key) || !s.Verify(key, nil, sig) {
		t.Error("then:", got)
	}
	public := append(unhex("7004"), make([]byte, 30)...)
	if got, e := s.Shared(j, public); len(got) != 0 || e != api.ErrZero || s.Len() != 3 {
		t.Error("no public key:", got, e)
	}
	if got := s.Public(j); !bytes.Equal(got, public) {
		t.Error("Public:", got)
	}
	if got, e := s.Shared(j, public); !bytes.Equal(got, append(unhex("6405"), make([]byte, 30)...)) || e != api.OK {
		t.Error("with oneself:", got, e)
	}
}

// P19.5: unlike terms have unlike names, be their parts alike when they are joined, or one a beginning of the other.
func TestIdealUnlike(t *testing.T) {
	s := suite.NewIdeal()
	j, k := s.Draw(), s.Draw()
	seen := map[string]int{}
	fresh := func(b []byte) {
		t.Helper()
		if seen[string(b)]++; seen[string(b)] > 1 || s.Len() != len(seen)+2 {
			t.Error("known:", b)
		}
	}
	parts := [][]byte{nil, {0}, {0, 0}, []byte("a"), []byte("ab"), []byte("b"), j, k, little(0), little(1), little(2), append(little(1), 'a'), append(little(1), "ab"...), append([]byte("a"), little(1)...), slices.Concat([]byte("a"), little(1), []byte("b"))}
	for _, x := range [][]byte{j, k} {
		fresh(s.Public(x))
		fresh(s.Signer(x))
		for _, b := range parts {
			fresh(s.Derive(x, b))
			fresh(s.Sign(x, b))
			for _, c := range parts {
				for _, n := range []int{0, 1, 2, 256} {
					fresh(s.Seal(x, n, b, c))
				}
			}
		}
	}
	for _, l := range [][2][]byte{{j, j}, {j, k}, {k, k}} {
		fresh(s.Hash(slices.Concat(l[0], l[1])))
		both, _ := s.Shared(l[0], s.Public(l[1]))
		fresh(both)
	}
	for _, b := range parts {
		fresh(s.Hash(b))
	}
	fresh(s.Draw())
}

// model is an ideal suite by the document's words: a list of terms, gone through one by one.
type model struct {
	terms []suite.Term
	drawn int
}

// called is the name of a term that has the number n.
func called(t suite.Term, n int) []byte {
	out := append([]byte{t.Kind}, little(n)...)
	switch t.Kind {
	case 'g':
		return append(out, make([]byte, 64-9)...)
	case 'b':
		return append(out, make([]byte, len(t.Parts[3])+16-9)...)
	}
	return append(out, make([]byte, 32-9)...)
}

func (m *model) clone() *model { return &model{slices.Clone(m.terms), m.drawn} }

// name is the name of what a call asks for.
func (m *model) name(kind byte, parts ...[]byte) []byte {
	x := suite.Term{Kind: kind}
	for _, p := range parts {
		x.Parts = append(x.Parts, bytes.Clone(p))
	}
	for i, t := range m.terms {
		if same([]suite.Term{t}, []suite.Term{x}) {
			return called(t, i+1)
		}
	}
	m.terms = append(m.terms, x)
	return called(x, len(m.terms))
}

// by is the parts of the term of a kind that has a name; none.
func (m *model) by(kind byte, name []byte) [][]byte {
	for i, t := range m.terms {
		if t.Kind == kind && bytes.Equal(called(t, i+1), name) {
			return t.Parts
		}
	}
	return nil
}

// ask asks both one thing, and holds the answers against each other; it tells what was answered.
func (m *model) ask(t *testing.T, s *suite.Ideal, what int, l [4][]byte, n int) []byte {
	t.Helper()
	right := len(l[0]) == 32
	var got, want []byte
	var e, f api.Errno
	switch what {
	case 0:
		m.drawn++
		got, want = s.Draw(), m.name('s', little(m.drawn))
	case 1:
		got, want = s.Hash(l[0]), m.name('h', l[0])
	case 2:
		if got = s.Public(l[0]); right {
			want = m.name('p', l[0])
		}
	case 3:
		got, e = s.Shared(l[0], l[1])
		p := m.by('p', l[1])
		switch {
		case !right:
			f = api.ErrArg
		case p == nil:
			f = api.ErrZero
		default:
			pair := [][]byte{l[0], p[0]}
			slices.SortFunc(pair, bytes.Compare)
			want = m.name('d', pair...)
		}
	case 4:
		if got = s.Derive(l[0], l[1]); right {
			want = m.name('k', l[0], l[1])
		}
	case 5:
		if got = s.Signer(l[0]); right {
			want = m.name('v', l[0])
		}
	case 6:
		if got = s.Sign(l[0], l[1]); right {
			want = m.name('g', l[0], l[1])
		}
	case 7:
		v, g := m.by('v', l[0]), m.by('g', l[2])
		yes := v != nil && g != nil && bytes.Equal(v[0], g[0]) && bytes.Equal(l[1], g[1])
		if s.Verify(l[0], l[1], l[2]) != yes {
			t.Fatal("Verify:", l, yes)
		}
	case 8:
		if got = s.Seal(l[0], n, l[1], l[2]); right && n >= 0 {
			want = m.name('b', l[0], little(n), l[1], l[2])
		}
	case 9:
		got, e = s.Open(l[0], n, l[1], l[2])
		b := m.by('b', l[2])
		switch {
		case !right || n < 0:
			f = api.ErrArg
		case b == nil || !bytes.Equal(l[0], b[0]) || !bytes.Equal(little(n), b[1]) || !bytes.Equal(l[1], b[2]):
			f = api.ErrSeal
		default:
			want = b[3]
		}
	}
	if !bytes.Equal(got, want) || e != f || s.Len() != len(m.terms) {
		t.Fatal("call", what, l, n, "answered", got, e, s.Len(), "not", want, f, len(m.terms))
	}
	return got
}

// P19.2, P19.3: long walks of calls of chance with what was answered before, and with clones that go their own ways.
func TestIdealWalks(t *testing.T) {
	for seed := range uint64(60) {
		rnd := rand.New(rand.NewPCG(19, 100+seed))
		type pair struct {
			s *suite.Ideal
			m *model
		}
		all := []pair{{suite.NewIdeal(), &model{}}}
		pool := [][]byte{nil, []byte("a"), []byte("ab"), ones(32, 0), ones(32, 255)}
		for range 250 {
			p := all[rnd.IntN(len(all))]
			var l [4][]byte
			for i := range l {
				l[i] = pool[rnd.IntN(len(pool))]
			}
			what, n := rnd.IntN(10), rnd.IntN(3)-rnd.IntN(8)/7
			known := p.s.Terms()
			if g := known[max(len(known)-1-rnd.IntN(12), 0):]; len(g) > 0 && rnd.IntN(2) == 0 {
				// What fits a term that is known: else next to nothing would be opened, or verified.
				x, number := g[0], max(len(known)-len(g), 0)+1
				switch x.Kind {
				case 'b':
					what, n, l = 9, int(binary.LittleEndian.Uint64(x.Parts[1])), [4][]byte{x.Parts[0], x.Parts[2], called(x, number)}
				case 'g':
					what, l = 7, [4][]byte{p.s.Signer(x.Parts[0]), x.Parts[1], called(x, number)}
					p.m.name('v', x.Parts[0])
				case 'p':
					what, l[1] = 3, called(x, number)
				}
				if i := rnd.IntN(12); i < 3 {
					l[i] = pool[rnd.IntN(len(pool))]
				}
			}
			if got := p.m.ask(t, p.s, what, l, n); len(got) > 0 {
				pool = append(pool, got)
			}
			if rnd.IntN(40) == 0 && len(all) < 4 {
				all = append(all, pair{p.s.Clone(), p.m.clone()})
			}
		}
		for _, p := range all {
			if got := p.s.Terms(); !same(got, p.m.terms) || len(got) != p.s.Len() {
				t.Fatal("Terms:", got)
			}
		}
	}
}

// P19.3: of a nil Ideal, or one that NewIdeal did not make: nothing; also if what it is asked would be right.
func TestNoIdeal(t *testing.T) {
	good := suite.NewIdeal()
	j := good.Draw()
	public, signer, sig, box := good.Public(j), good.Signer(j), good.Sign(j, nil), good.Seal(j, 1, nil, nil)
	for _, s := range []*suite.Ideal{nil, {}} {
		for i, got := range [][]byte{s.Draw(), s.Hash(nil), s.Hash(j), s.Public(j), s.Derive(j, nil), s.Signer(j), s.Sign(j, j), s.Seal(j, 1, j, j), s.Public(nil), s.Seal(nil, -1, nil, nil)} {
			if len(got) != 0 {
				t.Error(i, got)
			}
		}
		for _, x := range [][]byte{j, nil} {
			if got, e := s.Shared(x, public); len(got) != 0 || e != api.ErrArg {
				t.Error("Shared:", got, e)
			}
			if got, e := s.Open(x, 1, nil, box); len(got) != 0 || e != api.ErrArg {
				t.Error("Open:", got, e)
			}
		}
		if s.Verify(signer, nil, sig) || s.Verify(nil, nil, nil) || s.Len() != 0 || s.Terms() != nil || s.Clone() != nil {
			t.Error("Verify, Len, Terms, Clone")
		}
	}
}

// P19.3: a clone has all, and counts what is drawn on from there; neither of the two learns what the other one is asked.
func TestIdealClone(t *testing.T) {
	s := suite.NewIdeal()
	j := s.Draw()
	for size := range 40 {
		s.Hash(little(size))
		c, was := s.Clone(), s.Terms()
		if !same(c.Terms(), was) || c.Len() != s.Len() {
			t.Fatal("at once:", size)
		}
		// In turns, so that room behind their lists that they had in common would show.
		for i := range 5 {
			text := []byte{byte(i)}
			mine, theirs := s.Seal(j, size, nil, text), c.Seal(j, size, text, nil)
			if got, e := s.Open(j, size, nil, mine); !bytes.Equal(got, text) || e != api.OK {
				t.Fatal("its own:", size, i, got, e)
			}
			if got, e := c.Open(j, size, text, theirs); len(got) != 0 || e != api.OK {
				t.Fatal("the clone's own:", size, i, got, e)
			}
			if got, e := c.Open(j, size, nil, mine); len(got) != 0 || e != api.ErrSeal {
				t.Fatal("the clone knows:", size, i, got, e)
			}
			if got, e := s.Open(j, size, text, theirs); len(got) != 0 || e != api.ErrSeal {
				t.Fatal("it knows:", size, i, got, e)
			}
		}
		if a, b := s.Draw(), c.Draw(); !bytes.Equal(a, b) || !same(s.Terms()[:len(was)], was) || !same(c.Terms()[:len(was)], was) {
			t.Fatal("Draw:", size, a, b)
		}
		if a, b := s.Terms(), c.Terms(); a[len(a)-1].Kind != 's' || !bytes.Equal(a[len(a)-1].Parts[0], little(size+2)) || !same(a[len(a)-1:], b[len(b)-1:]) {
			t.Fatal("how many were drawn:", size)
		}
		c.Draw()
	}
}

// asked is all that a suite answers to some questions; what is handed in has room behind it.
func asked(t *testing.T, s suite.Suite) [][]byte {
	var all, rooms, args, were [][]byte
	in := func(b []byte) []byte {
		l, behind := roomy(b)
		rooms, args, were = append(rooms, behind), append(args, l), append(were, bytes.Clone(b))
		return l
	}
	j, k, text := s.Draw(), s.Draw(), []byte("a text")
	public, signer, sig, box := s.Public(j), s.Signer(j), s.Sign(j, text), s.Seal(j, 1, text, text)
	shared, _ := s.Shared(in(k), in(public))
	opened, _ := s.Open(in(j), 1, in(text), in(box))
	all = append(all, j, k, public, signer, sig, box, shared, opened, s.Hash(in(text)), s.Public(in(k)), s.Derive(in(j), in(text)), s.Signer(in(k)), s.Sign(in(j), in(text)), s.Seal(in(j), 2, in(text), in(text)))
	if !s.Verify(in(signer), in(text), in(sig)) {
		t.Error("Verify")
	}
	for i, b := range args {
		if !bytes.Equal(b, were[i]) || !bytes.Equal(rooms[i], ones(100, 0xa5)) {
			t.Error("changed:", i)
		}
	}
	spoil(args...) // what it keeps is not in there
	return all
}

// The rule on memory: what is handed in is neither changed nor kept, and answers share nothing.
func TestMemory(t *testing.T) {
	each(t, func(t *testing.T, s suite.Suite) {
		first := asked(t, s)
		var was [][]byte
		for _, b := range first {
			was = append(was, bytes.Clone(b))
		}
		spoil(first[:7]...)
		for i, b := range first[7:] {
			if !bytes.Equal(b, was[7+i]) {
				t.Error("shared with another answer:", 7+i)
			}
		}
		spoil(first[7:]...)
		j := was[0]
		if got, e := s.Open(j, 1, []byte("a text"), was[5]); string(got) != "a text" || e != api.OK {
			t.Error("Open:", got, e)
		}
		if !s.Verify(was[3], []byte("a text"), was[4]) || !bytes.Equal(s.Public(j), was[2]) || !bytes.Equal(s.Hash([]byte("a text")), was[8]) {
			t.Error("what was known")
		}
	})
}

// parts is all parts of some terms, one behind the other.
func parts(l []suite.Term) [][]byte {
	var out [][]byte
	for _, x := range l {
		out = append(out, x.Parts...)
	}
	return out
}

// The rule on memory: what Terms tells is new, each part for itself.
func TestIdealTermsMemory(t *testing.T) {
	s := suite.NewIdeal()
	asked(t, s)
	c, want := s.Clone(), s.Terms()
	got, again := s.Terms(), s.Terms()
	lists, were := slices.Concat(parts(got), parts(again), parts(c.Terms())), slices.Concat(parts(want), parts(want), parts(want))
	for i := range lists {
		spoil(lists[i])
		if !slices.EqualFunc(lists[i+1:], were[i+1:], bytes.Equal) {
			t.Fatal("shared with a part behind it:", i)
		}
	}
	for _, x := range got {
		clear(x.Parts[:cap(x.Parts)])
	}
	for i, x := range again {
		for k := range x.Parts {
			if len(x.Parts[k]) != len(want[i].Parts[k]) {
				t.Error("lists of parts:", i, k)
			}
		}
	}
	clear(got[:cap(got)])
	if len(again) != len(want) || again[0].Kind != 's' || !same(s.Terms(), want) || !same(c.Terms(), want) {
		t.Error("lists of terms")
	}
}
