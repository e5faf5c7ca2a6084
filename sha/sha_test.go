package sha_test

import (
	"bytes"
	"crypto/sha256"
	"crypto/sha512"
	"encoding/hex"
	"math/rand/v2"
	"strings"
	"testing"

	"sealwax/sha"
)

// edges are lengths at which padding goes on to one more block, and at which blocks end, of both sums.
var edges = []int{0, 1, 55, 56, 57, 63, 64, 65, 111, 112, 113, 119, 120, 127, 128, 129, 183, 184, 191, 192, 239, 240, 255, 256, 257}

// chance is n bytes out of chance, with room behind their end that is not nought.
func chance(r *rand.Rand, n int) []byte {
	b := make([]byte, n+300)
	for i := range b {
		b[i] = byte(r.Uint32()) | 1<<(r.Uint32()%8)
	}
	return b[:n]
}

// whole is a list with the room behind its end.
func whole(b []byte) []byte { return b[:cap(b)] }

// library256 is what Go's own SHA-256 makes of bytes.
func library256(b []byte) []byte {
	s := sha256.Sum256(b)
	return s[:]
}

// library512 is what Go's own SHA-512 makes of bytes.
func library512(b []byte) []byte {
	s := sha512.Sum512(b)
	return s[:]
}

// wants tells of an answer that is not what it must be.
func wants(t *testing.T, got, want []byte, what ...any) {
	t.Helper()
	if !bytes.Equal(got, want) {
		t.Errorf("%v: %x, want %x", what, got, want)
	}
}

// P6.1: the texts of FIPS 180-4's examples, and a million of one letter.
func TestKnown(t *testing.T) {
	for _, c := range []struct{ text, want256, want512 string }{
		{
			"",
			"e3b0c44298fc1c149afbf4c8996fb92427ae41e4649b934ca495991b7852b855",
			"cf83e1357eefb8bdf1542850d66d8007d620e4050b5715dc83f4a921d36ce9ce47d0d13c5d85f2b0ff8318d2877eec2f63b931bd47417a81a538327af927da3e",
		},
		{
			"abc",
			"ba7816bf8f01cfea414140de5dae2223b00361a396177a9cb410ff61f20015ad",
			"ddaf35a193617abacc417349ae20413112e6fa4e89a97ea20a9eeee64b55d39a2192992a274fc1a836ba3c23a3feebbd454d4423643ce80e2a9ac94fa54ca49f",
		},
		{
			"abcdbcdecdefdefgefghfghighijhijkijkljklmklmnlmnomnopnopq",
			"248d6a61d20638b8e5c026930c3e6039a33ce45964ff2167f6ecedd419db06c1",
			"204a8fc6dda82f0a0ced7beb8e08a41657c16ef468b228a8279be331a703c33596fd15c13b1b07f9aa1d3bea57789ca031ad85c7a71dd70354ec631238ca3445",
		},
		{
			"abcdefghbcdefghicdefghijdefghijkefghijklfghijklmghijklmnhijklmnoijklmnopjklmnopqklmnopqrlmnopqrsmnopqrstnopqrstu",
			"cf5b16a778af8380036ce59e7b0492370b249b11e8f07a51afac45037afee9d1",
			"8e959b75dae313da8cf4f72814fc143f8f7779c6eb9f7fa17299aeadb6889018501d289e4900f7e4331b99dec4b5433ac7d329eeb6dd26545e96e55b874be909",
		},
		{
			strings.Repeat("a", 1000000),
			"cdc76e5c9914fb9281a1c7e284d73e67f1809a48a497200e046d39ccc7112cd0",
			"e718483d0ce769644e2e42c7bc15b4638e1f98b13b2044285632a803afa973ebde0ff244877ea60a4cb0432ce577c31beb009c5c2c49aa2e4eadb217ad8cc09b",
		},
	} {
		for _, s := range [][2]string{
			{hex.EncodeToString(sha.Sum256([]byte(c.text))), c.want256},
			{hex.EncodeToString(sha.Sum512([]byte(c.text))), c.want512},
		} {
			if s[0] != s[1] {
				t.Errorf("of %.20q: %s, want %s", c.text, s[0], s[1])
			}
		}
	}
}

// P6.1: all lengths of some blocks, of bytes that are all alike, and of bytes out of chance.
func TestLengths(t *testing.T) {
	r := rand.New(rand.NewPCG(6, 1))
	for n := range 700 {
		for _, b := range [][]byte{make([]byte, n), bytes.Repeat([]byte{255}, n), bytes.Repeat([]byte{0x80}, n), chance(r, n)} {
			wants(t, sha.Sum256(b), library256(b), "Sum256 of", n)
			wants(t, sha.Sum512(b), library512(b), "Sum512 of", n)
		}
	}
	for range 300 {
		b := chance(r, r.IntN(1<<16))
		wants(t, sha.Sum256(b), library256(b), "Sum256 of", len(b))
		wants(t, sha.Sum512(b), library512(b), "Sum512 of", len(b))
	}
}

// P6.1: each bit counts.
func TestBits(t *testing.T) {
	r := rand.New(rand.NewPCG(6, 2))
	for _, n := range []int{1, 55, 56, 112, 130} {
		b := chance(r, n)
		for i := range 8 * n {
			b[i/8] ^= 1 << (i % 8)
			wants(t, sha.Sum256(b), library256(b), "Sum256 of", n, "with bit", i)
			wants(t, sha.Sum512(b), library512(b), "Sum512 of", n, "with bit", i)
		}
	}
}

// P6.1: none is the same, nil or empty, or cut off a longer list.
func TestNone(t *testing.T) {
	for _, b := range [][]byte{nil, {}, make([]byte, 0, 200), []byte("abc")[:0]} {
		wants(t, sha.Sum256(b), library256(nil), "Sum256 of none")
		wants(t, sha.Sum512(b), library512(nil), "Sum512 of none")
	}
}

// P6.1: what is handed in is not changed, the room behind its end included; an answer is new memory.
func TestMemory(t *testing.T) {
	r := rand.New(rand.NewPCG(6, 3))
	for _, n := range edges {
		b := chance(r, n)
		before := bytes.Clone(whole(b))
		for _, sum := range []func() []byte{
			func() []byte { return sha.Sum256(b) },
			func() []byte { return sha.Sum512(b) },
			func() []byte { h := sha.New(); h.Write(b); return h.Sum() },
		} {
			first := sum()
			want := bytes.Clone(first)
			second := sum()
			clear(whole(first))
			wants(t, second, want, "an answer, behind a change of another one, of", n)
			wants(t, sum(), want, "an answer once more, of", n)
			wants(t, whole(b), before, "what was handed in, of", n)
			clear(whole(b))
			wants(t, second, want, "an answer, behind a change of what was handed in, of", n)
			copy(whole(b), before)
		}
	}
}

// P6.2: New, Write, Sum: nothing written, and writes of nothing.
func TestNothingWritten(t *testing.T) {
	h := sha.New()
	wants(t, h.Sum(), library256(nil), "Sum of nothing")
	wants(t, h.Clone().Sum(), library256(nil), "Sum of a clone of nothing")
	h.Write(nil)
	h.Write([]byte{})
	wants(t, h.Sum(), library256(nil), "Sum of nothing, written twice")
	h.Write([]byte("abc"))
	h.Write(nil)
	wants(t, h.Sum(), library256([]byte("abc")), "Sum of abc and nothing")
	h.Write(make([]byte, 61))
	h.Write([]byte{})
	wants(t, h.Sum(), library256(append([]byte("abc"), make([]byte, 61)...)), "Sum of a block and nothing")
}

// A Hash that New has not made is one to which nothing was written, too.
func TestZero(t *testing.T) {
	var h sha.Hash
	wants(t, h.Sum(), library256(nil), "Sum of a zero Hash")
	k := h.Clone()
	h.Write([]byte("abc"))
	wants(t, h.Sum(), library256([]byte("abc")), "Sum of a zero Hash, written to")
	wants(t, k.Sum(), library256(nil), "Sum of a zero Hash's clone")
}

// P6.2: Write: any bytes in two writes, cut at each place, and in many.
func TestWrites(t *testing.T) {
	r := rand.New(rand.NewPCG(6, 4))
	for n := range 200 {
		b := chance(r, n)
		want := library256(b)
		for cut := range n + 1 {
			h := sha.New()
			h.Write(b[:cut])
			h.Write(b[cut:])
			wants(t, h.Sum(), want, "Sum of", n, "cut at", cut)
		}
		h := sha.New()
		for i := range n {
			h.Write(b[i : i+1])
		}
		wants(t, h.Sum(), want, "Sum of", n, "one by one")
	}
	for range 300 {
		b := chance(r, r.IntN(5000))
		h := sha.New()
		for at := 0; at < len(b); {
			n := min(r.IntN(1+r.IntN(400)), len(b)-at)
			h.Write(b[at : at+n])
			at += n
		}
		wants(t, h.Sum(), library256(b), "Sum of", len(b), "in pieces")
	}
}

// P6.2: Sum: it may be written on, and summed once more; an answer that is changed changes nothing.
func TestWrittenOn(t *testing.T) {
	r := rand.New(rand.NewPCG(6, 5))
	b := chance(r, 400)
	for _, step := range []int{1, 3, 55, 56, 63, 64, 65, 128} {
		h := sha.New()
		for at := 0; at+step <= len(b); at += step {
			for range 2 {
				sum := h.Sum()
				wants(t, sum, library256(b[:at]), "Sum of", at, "in steps of", step)
				clear(whole(sum))
			}
			h.Write(b[at : at+step])
		}
	}
}

// P6.2: Write keeps nothing of what it is handed.
func TestKept(t *testing.T) {
	r := rand.New(rand.NewPCG(6, 6))
	for _, n := range edges {
		b := chance(r, n)
		before := bytes.Clone(whole(b))
		h := sha.New()
		h.Write(b)
		wants(t, whole(b), before, "what was written, of", n)
		clear(whole(b))
		wants(t, h.Sum(), library256(before[:n]), "Sum, behind a change of what was written, of", n)
		h.Write([]byte("x"))
		wants(t, h.Sum(), library256(append(before[:n:n], 'x')), "Sum of one more, of", n)
	}
}

// P6.2: Clone: what is written to one of the two is not written to the other; two of New know nothing of one another.
func TestClone(t *testing.T) {
	r := rand.New(rand.NewPCG(6, 7))
	for _, n := range edges {
		for _, m := range edges {
			b, mine, theirs := chance(r, n), chance(r, m), chance(r, m)
			h, other := sha.New(), sha.New()
			h.Write(b)
			k := h.Clone()
			wants(t, k.Sum(), library256(b), "Sum of a clone", n)
			h.Write(mine)
			wants(t, k.Sum(), library256(b), "Sum of a clone, whose first was written to", n, m)
			k.Write(theirs)
			last := k.Clone()
			last.Write(mine)
			k.Write([]byte{1})
			wants(t, h.Sum(), library256(append(b[:n:n], mine...)), "Sum of one that was cloned", n, m)
			wants(t, k.Sum(), library256(append(append(b[:n:n], theirs...), 1)), "Sum of a clone, written to", n, m)
			wants(t, last.Sum(), library256(append(append(b[:n:n], theirs...), mine...)), "Sum of a clone's clone", n, m)
			wants(t, other.Sum(), library256(nil), "Sum of another one", n, m)
		}
	}
}

// P6.2: of a nil Hash.
func TestNil(t *testing.T) {
	var h *sha.Hash
	for _, b := range [][]byte{nil, []byte("abc"), make([]byte, 200)} {
		h.Write(b)
		wants(t, h.Sum(), library256(nil), "Sum of a nil Hash")
		if h.Clone() != nil {
			t.Error("a nil Hash has a clone")
		}
	}
}

// P6.1, P6.2: so many bytes that their bits are no number of 32 bits any more.
func TestMany(t *testing.T) {
	if testing.Short() {
		t.Skip("takes its time")
	}
	b := make([]byte, 1<<29+77)
	for name, c := range map[string]struct{ sum, want func([]byte) []byte }{
		"Sum256": {sha.Sum256, library256},
		"Sum512": {sha.Sum512, library512},
		"Sum":    {written, library256},
	} {
		t.Run(name, func(t *testing.T) {
			t.Parallel()
			wants(t, c.sum(b), c.want(b), name)
		})
	}
}

// written is the sum of bytes that are written in pieces, none of which are whole blocks.
func written(b []byte) []byte {
	h := sha.New()
	for len(b) > 1<<20 {
		h.Write(b[:1<<20-1])
		b = b[1<<20-1:]
	}
	h.Write(b)
	return h.Sum()
}
