package hkdf_test

import (
	"bytes"
	library "crypto/hkdf"
	"crypto/hmac"
	"crypto/sha256"
	"encoding/hex"
	"math"
	"math/rand/v2"
	"strings"
	"testing"

	"sealwax/api"
	"sealwax/hkdf"
)

// most is how many bytes Expand and Derive make at most.
const most = 8160

// edges are lengths of keys and of bytes at which a key is hashed first, and at which padding goes on to one more block.
var edges = []int{0, 1, 31, 32, 33, 55, 56, 63, 64, 65, 66, 119, 120, 127, 128, 129, 300}

// chance is n bytes out of chance, none of them nought, with room behind their end that is not nought either.
func chance(r *rand.Rand, n int) []byte {
	b := make([]byte, n+300)
	for i := range b {
		b[i] = byte(1 + r.IntN(255))
	}
	return b[:n]
}

// whole is a list with the room behind its end.
func whole(b []byte) []byte { return b[:cap(b)] }

// count is n bytes, each one more than the one ahead of it.
func count(first byte, n int) []byte {
	b := make([]byte, n)
	for i := range b {
		b[i] = first + byte(i)
	}
	return b
}

// noughts is a list with n noughts behind it, in memory of its own.
func noughts(b []byte, n int) []byte { return append(bytes.Clone(b), make([]byte, n)...) }

// wants tells of an answer that is not what it must be.
func wants(t *testing.T, got, want []byte, what ...any) {
	t.Helper()
	if !bytes.Equal(got, want) {
		t.Errorf("%v: %x, want %x", what, got, want)
	}
}

// told tells of digits that an answer does not have.
func told(t *testing.T, got []byte, want string, what ...any) {
	t.Helper()
	if s := hex.EncodeToString(got); s != want {
		t.Errorf("%v: %s, want %s", what, s, want)
	}
}

// must is an answer that is no refusal.
func must(t *testing.T) func([]byte, api.Errno) []byte {
	return func(b []byte, e api.Errno) []byte {
		t.Helper()
		if e != api.OK {
			t.Fatal("refused:", e)
		}
		return b
	}
}

// mac is what Go's own HMAC makes of a key and bytes.
func mac(key, b []byte) []byte {
	h := hmac.New(sha256.New, key)
	h.Write(b)
	return h.Sum(nil)
}

// spelled is a code as the document's words say, step by step.
func spelled(key, b []byte) []byte {
	if len(key) > 64 {
		s := sha256.Sum256(key)
		key = s[:]
	}
	var inner, outer []byte
	for _, x := range noughts(key, 64-len(key)) {
		inner, outer = append(inner, x^0x36), append(outer, x^0x5c)
	}
	s := sha256.Sum256(append(inner, b...))
	s = sha256.Sum256(append(outer, s[:]...))
	return s[:]
}

// blocks is T1, T2, .. as many as can be, as the document's words say.
func blocks(key, info []byte) []byte {
	var out, last []byte
	for i := 1; i <= 255; i++ {
		last = mac(key, append(append(bytes.Clone(last), info...), byte(i)))
		out = append(out, last...)
	}
	return out
}

// P7.1: the document's example, and RFC 4231's.
func TestMacKnown(t *testing.T) {
	text := func(s string) []byte { return []byte(s) }
	many := func(b byte, n int) []byte { return bytes.Repeat([]byte{b}, n) }
	for i, c := range []struct {
		key, b []byte
		want   string // or its beginning
	}{
		{text("key"), text("The quick brown fox jumps over the lazy dog"), "f7bc83f430538424b13298e6aa6fb143ef4d59a14946175997479dbc2d1a3cd8"},
		{nil, nil, "b613679a0814d9ec772f95d778c35fc5ff1697c493715653c6c712144292c5ad"},
		{many(0x0b, 20), text("Hi There"), "b0344c61d8db38535ca8afceaf0bf12b881dc200c9833da726e9376c2e32cff7"},
		{text("Jefe"), text("what do ya want for nothing?"), "5bdcc146bf60754e6a042426089575c75a003f089d2739839dec58b964ec3843"},
		{many(0xaa, 20), many(0xdd, 50), "773ea91e36800e46854db8ebd09181a72959098b3ef8c122d9635514ced565fe"},
		{count(1, 25), many(0xcd, 50), "82558a389a443c0ea4cc819899f2083a85f0faa3e578f8077a2e3ff46729665b"},
		{many(0x0c, 20), text("Test With Truncation"), "a3b6167473100ee06e0c796c2955552b"},
		{many(0xaa, 131), text("Test Using Larger Than Block-Size Key - Hash Key First"), "60e431591ee0b67f0d8a26aacbf5b77f8e0bc6213728c5140546040f0ee37f54"},
		{many(0xaa, 131), text("This is a test using a larger than block-size key and a larger than block-size data. The key needs to be hashed before being used by the HMAC algorithm."), "9b09ffa71b942fcb27635fbcd5b0e944bfdc63644f0713938a7f51535c3a35e2"},
	} {
		got := hex.EncodeToString(hkdf.Mac(c.key, c.b))
		if len(got) != 64 || !strings.HasPrefix(got, c.want) {
			t.Errorf("example %d: %s, want %s", i, got, c.want)
		}
	}
}

// P7.1: Mac of keys and bytes of all lengths of some blocks.
func TestMac(t *testing.T) {
	r := rand.New(rand.NewPCG(7, 1))
	for n := range 200 {
		for _, m := range edges {
			for _, c := range [][2][]byte{
				{chance(r, n), chance(r, m)},
				{chance(r, m), chance(r, n)},
				{make([]byte, n), make([]byte, m)},
				{bytes.Repeat([]byte{255}, n), bytes.Repeat([]byte{255}, m)},
			} {
				got := hkdf.Mac(c[0], c[1])
				wants(t, got, mac(c[0], c[1]), "Mac of", n, m)
				wants(t, got, spelled(c[0], c[1]), "Mac, spelled, of", n, m)
			}
		}
	}
	for range 200 {
		key, b := chance(r, r.IntN(5000)), chance(r, r.IntN(1<<15))
		wants(t, hkdf.Mac(key, b), mac(key, b), "Mac of", len(key), len(b))
	}
}

// P7.1: each bit of the key and of the bytes counts.
func TestMacBits(t *testing.T) {
	r := rand.New(rand.NewPCG(7, 2))
	for _, n := range edges {
		key, b := chance(r, n), chance(r, 70)
		seen := map[string]bool{string(hkdf.Mac(key, b)): true}
		for _, l := range [][]byte{key, b} {
			for i := range 8 * len(l) {
				l[i/8] ^= 1 << (i % 8)
				got := hkdf.Mac(key, b)
				wants(t, got, mac(key, b), "Mac of a key of", n, "with bit", i)
				seen[string(got)] = true
				l[i/8] ^= 1 << (i % 8)
			}
		}
		if want := 1 + 8*(n+70); len(seen) != want {
			t.Errorf("%d codes that are unlike with a key of %d, want %d", len(seen), n, want)
		}
	}
}

// P7.1: Extract is Mac of the salt and the key, in this order.
func TestExtract(t *testing.T) {
	r := rand.New(rand.NewPCG(7, 3))
	for _, n := range edges {
		for _, m := range edges {
			salt, key := chance(r, n), chance(r, m)
			got := hkdf.Extract(salt, key)
			wants(t, got, hkdf.Mac(salt, key), "Extract of", n, m)
			wants(t, got, mac(salt, key), "Extract, by the library, of", n, m)
		}
	}
}

// P7.1: Extract of an empty salt, nil or not, is that of 32 noughts.
func TestExtractNoSalt(t *testing.T) {
	r := rand.New(rand.NewPCG(7, 4))
	for _, n := range edges {
		key := chance(r, n)
		want := mac(make([]byte, 32), key)
		for _, salt := range [][]byte{nil, {}, chance(r, 10)[:0], make([]byte, 32)} {
			wants(t, hkdf.Extract(salt, key), want, "Extract of no salt and", n)
		}
	}
}

// P7.2, P7.3: RFC 5869, A.1 to A.3.
func TestKnown(t *testing.T) {
	for i, c := range []struct {
		salt, key, info []byte
		first, all      string
	}{
		{
			count(0, 13), bytes.Repeat([]byte{0x0b}, 22), count(0xf0, 10),
			"077709362c2e32df0ddc3f0dc47bba6390b6c73bb50f9c3122ec844ad7c2b3e5",
			"3cb25f25faacd57a90434f64d0362f2a2d2d0a90cf1a5a4c5db02d56ecc4c5bf34007208d5b887185865",
		},
		{
			count(0x60, 80), count(0, 80), count(0xb0, 80),
			"06a6b88c5853361a06104c9ceb35b45cef760014904671014a193f40c15fc244",
			"b11e398dc80327a1c8e7f78c596a49344f012eda2d4efad8a050cc4c19afa97c59045a99cac7827271cb41c65e590e09da3275600c2f09b8367793a9aca3db71cc30c58179ec3e87c14c01d5c1f3434f1d87",
		},
		{
			nil, bytes.Repeat([]byte{0x0b}, 22), nil,
			"19ef24a32c717b167f33a91d6f648bdf96596776afdb6377ac434c1c293ccb04",
			"8da4e775a563c18f715f802a063c5a31b8a11f5c5ee1879ec3454e5f3c738d2d9d201395faa4b61a96c8",
		},
	} {
		first, n := hkdf.Extract(c.salt, c.key), len(c.all)/2
		told(t, first, c.first, "Extract, example", i)
		told(t, must(t)(hkdf.Expand(first, c.info, n)), c.all, "Expand, example", i)
		told(t, must(t)(hkdf.Derive(c.salt, c.key, c.info, n)), c.all, "Derive, example", i)
	}
}

// P7.2, P7.3: Expand of each number of bytes: the blocks' beginning, and no room behind its end.
func TestExpand(t *testing.T) {
	r := rand.New(rand.NewPCG(7, 5))
	key, info := chance(r, 32), chance(r, 10)
	want := blocks(key, info)
	for n := range most + 1 {
		got, e := hkdf.Expand(key, info, n)
		if e != api.OK || !bytes.Equal(got, want[:n]) {
			t.Fatalf("Expand of %d: %x, %d, want %x", n, got, e, want[:n])
		}
		if cap(got) != n {
			t.Fatalf("Expand of %d: room for %d", n, cap(got))
		}
	}
}

// P7.2: Expand of keys and infos of many lengths, of all that there is, and of what ends beside a block's end.
func TestExpandLengths(t *testing.T) {
	r := rand.New(rand.NewPCG(7, 6))
	for _, k := range edges {
		for _, m := range edges {
			key, info := chance(r, k), chance(r, m)
			want := blocks(key, info)
			for _, n := range []int{0, 1, 31, 32, 33, 63, 64, 65, 200, most - 33, most - 32, most - 31, most - 1, most} {
				wants(t, must(t)(hkdf.Expand(key, info, n)), want[:n], "Expand of", k, m, n)
			}
			// The library's own, so that no fault stands in the words above.
			all, err := library.Expand(sha256.New, key, string(info), most)
			if err != nil || !bytes.Equal(all, want) {
				t.Fatal("the library's Expand of", k, m, "is unlike:", err)
			}
		}
	}
}

// P7.2: Derive is Expand of Extract, whatever is empty.
func TestDerive(t *testing.T) {
	r := rand.New(rand.NewPCG(7, 7))
	for range 500 {
		salt, key, info := chance(r, r.IntN(150)), chance(r, r.IntN(150)), chance(r, r.IntN(150))
		if r.IntN(4) == 0 {
			salt = nil
		}
		if r.IntN(4) == 0 {
			info = nil
		}
		n := r.IntN(500)
		want, err := library.Key(sha256.New, key, salt, string(info), n)
		if err != nil {
			t.Fatal(err)
		}
		got := must(t)(hkdf.Derive(salt, key, info, n))
		wants(t, got, want, "Derive of", len(salt), len(key), len(info), n)
		wants(t, got, must(t)(hkdf.Expand(hkdf.Extract(salt, key), info, n)), "Derive, against both calls, of", len(salt), len(key), len(info), n)
	}
	all := must(t)(hkdf.Derive(nil, nil, nil, most))
	wants(t, all, blocks(mac(nil, nil), nil), "Derive of nothing, all of it")
	for n := range most + 1 {
		got := must(t)(hkdf.Derive(nil, nil, nil, n))
		if !bytes.Equal(got, all[:n]) || cap(got) != n {
			t.Fatalf("Derive of %d is not the beginning of all, or has room for %d", n, cap(got))
		}
	}
}

// P7.2: ErrLong, unless n is 0 to 8160.
func TestLong(t *testing.T) {
	for _, n := range []int{math.MinInt, math.MinInt + 1, math.MinInt32, -8160, -33, -32, -31, -1, most + 1, most + 31, most + 32, 256 * 32, 1 << 16, math.MaxInt32, math.MaxInt32 + 1, math.MaxInt - 31, math.MaxInt} {
		for _, l := range [][]byte{nil, {}, []byte("abc"), make([]byte, 100)} {
			if b, e := hkdf.Expand(l, l, n); e != api.ErrLong || b != nil {
				t.Errorf("Expand of %d: %d bytes, %d", n, len(b), e)
			}
			if b, e := hkdf.Derive(l, l, l, n); e != api.ErrLong || b != nil {
				t.Errorf("Derive of %d: %d bytes, %d", n, len(b), e)
			}
		}
	}
	for _, n := range []int{0, most} {
		for _, l := range [][]byte{nil, {}, []byte("abc"), make([]byte, 100)} {
			if b, e := hkdf.Expand(l, l, n); e != api.OK || len(b) != n {
				t.Errorf("Expand of %d: %d bytes, %d", n, len(b), e)
			}
			if b, e := hkdf.Derive(l, l, l, n); e != api.OK || len(b) != n {
				t.Errorf("Derive of %d: %d bytes, %d", n, len(b), e)
			}
		}
	}
}

// P7.3: a key of more than 64 bytes does as its SHA-256; one of 64 does not.
func TestLongKeys(t *testing.T) {
	r := rand.New(rand.NewPCG(7, 8))
	for _, n := range []int{0, 31, 32, 33, 63, 64, 65, 66, 127, 128, 129, 5000} {
		key, b := chance(r, n), chance(r, 50)
		short := sha256.Sum256(key)
		for name, call := range map[string]func(key []byte) []byte{
			"Mac":     func(key []byte) []byte { return hkdf.Mac(key, b) },
			"Extract": func(key []byte) []byte { return hkdf.Extract(key, b) },
			"Expand":  func(key []byte) []byte { return must(t)(hkdf.Expand(key, b, 100)) },
			"Derive":  func(key []byte) []byte { return must(t)(hkdf.Derive(key, b, b, 100)) },
		} {
			if same := bytes.Equal(call(key), call(short[:])); same != (n > 64) {
				t.Errorf("%s of %d bytes does as their SHA-256: %t", name, n, same)
			}
		}
	}
}

// P7.3: noughts behind a key change nothing, while it has no more than 64 bytes.
func TestNoughts(t *testing.T) {
	r := rand.New(rand.NewPCG(7, 9))
	for n := range 65 {
		key, b := chance(r, n), chance(r, 50)
		code, made := hkdf.Mac(key, b), must(t)(hkdf.Expand(key, b, 70))
		for more := range 68 - n {
			long := noughts(key, more)
			fits := len(long) <= 64
			if same := bytes.Equal(hkdf.Mac(long, b), code); same != fits {
				t.Errorf("Mac of %d bytes and %d noughts is the same: %t", n, more, same)
			}
			if same := bytes.Equal(must(t)(hkdf.Expand(long, b, 70)), made); same != fits {
				t.Errorf("Expand of %d bytes and %d noughts is the same: %t", n, more, same)
			}
		}
		// Ahead of a key, or behind the bytes, they do.
		if n > 0 && bytes.Equal(hkdf.Mac(append([]byte{0}, key...), b), code) {
			t.Error("Mac of a nought ahead of a key of", n, "is the same")
		}
		if bytes.Equal(hkdf.Mac(key, noughts(b, 1)), code) {
			t.Error("Mac of bytes with a nought behind them is the same, with a key of", n)
		}
	}
}

// Nil and empty mean the same.
func TestEmpty(t *testing.T) {
	spare := []byte("abc")[:0]
	for _, l := range [][]byte{nil, {}, spare} {
		wants(t, hkdf.Mac(l, []byte("b")), mac(nil, []byte("b")), "Mac of no key")
		wants(t, hkdf.Mac([]byte("k"), l), mac([]byte("k"), nil), "Mac of no bytes")
		wants(t, hkdf.Extract([]byte("s"), l), mac([]byte("s"), nil), "Extract of no key")
		wants(t, must(t)(hkdf.Expand(l, []byte("i"), 50)), blocks(nil, []byte("i"))[:50], "Expand of no key")
		wants(t, must(t)(hkdf.Expand([]byte("k"), l, 50)), blocks([]byte("k"), nil)[:50], "Expand of no info")
	}
}

// What is handed in is not changed, the room behind its end included; an answer is new memory.
func TestMemory(t *testing.T) {
	r := rand.New(rand.NewPCG(7, 10))
	for _, n := range edges {
		key, b, info := chance(r, n), chance(r, n), chance(r, n)
		args := [][]byte{key, b, info}
		var before [][]byte
		for _, l := range args {
			before = append(before, bytes.Clone(whole(l)))
		}
		for name, call := range map[string]func() []byte{
			"Mac":      func() []byte { return hkdf.Mac(key, b) },
			"Mac of b": func() []byte { return hkdf.Mac(b, b) },
			"Extract":  func() []byte { return hkdf.Extract(b, key) },
			"Expand":   func() []byte { return must(t)(hkdf.Expand(key, info, 40)) },
			"Derive":   func() []byte { return must(t)(hkdf.Derive(b, key, info, 300)) },
		} {
			first := call()
			want := bytes.Clone(first)
			second := call()
			clear(whole(first))
			wants(t, second, want, name, "behind a change of another answer, of", n)
			wants(t, call(), want, name, "once more, of", n)
			for i, l := range args {
				wants(t, whole(l), before[i], name, "what was handed in, of", n)
				clear(whole(l))
			}
			wants(t, second, want, name, "behind a change of what was handed in, of", n)
			for i, l := range args {
				copy(whole(l), before[i])
			}
		}
	}
}

// P7.1, P7.2: long keys, bytes and infos; a long key is no work for each block anew.
func TestMuch(t *testing.T) {
	r := rand.New(rand.NewPCG(7, 11))
	long := chance(r, 1<<22)
	wants(t, hkdf.Mac(long, long), mac(long, long), "Mac of much")
	wants(t, hkdf.Extract(nil, long), mac(nil, long), "Extract of much")
	short := sha256.Sum256(long)
	wants(t, must(t)(hkdf.Expand(long, nil, most)), blocks(short[:], nil), "Expand of a long key")
	wants(t, must(t)(hkdf.Expand(nil, long[:1<<16], most)), blocks(nil, long[:1<<16]), "Expand of a long info")
	wants(t, must(t)(hkdf.Derive(long, long, long, 64)), blocks(mac(long, long), long)[:64], "Derive of much")
}
