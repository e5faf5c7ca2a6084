package poly_test

import (
	"bytes"
	"encoding/hex"
	"math/big"
	"math/rand/v2"
	"slices"
	"testing"

	"sealwax/api"
	"sealwax/poly"
)

// power is 2^n.
func power(n uint) *big.Int { return new(big.Int).Lsh(big.NewInt(1), n) }

// prime is what all is modulo of.
func prime() *big.Int { return new(big.Int).Sub(power(130), big.NewInt(5)) }

// worth is the number whose bytes these are, the lowest first.
func worth(b []byte) *big.Int {
	high := bytes.Clone(b)
	slices.Reverse(high)
	return new(big.Int).SetBytes(high)
}

// spread is a number below 2^128 in 16 bytes, the lowest first.
func spread(n *big.Int) []byte {
	out := n.FillBytes(make([]byte, 16))
	slices.Reverse(out)
	return out
}

// isCut tells of one of 128 bits whether the document cuts it.
func isCut(bit int) bool {
	switch bit / 8 {
	case 3, 7, 11, 15:
		return bit%8 >= 4
	case 4, 8, 12:
		return bit%8 < 2
	}
	return false
}

// cut is the document's cut, bit by bit.
func cut(r []byte) []byte {
	out := bytes.Clone(r)
	for bit := range 128 {
		if isCut(bit) {
			out[bit/8] &^= 1 << (bit % 8)
		}
	}
	return out
}

// gather is the document's a at last, in whole numbers, ahead of s.
func gather(r *big.Int, b []byte) *big.Int {
	a := new(big.Int)
	for block := range slices.Chunk(b, 16) {
		a.Add(a, worth(append(bytes.Clone(block), 1)))
		a.Mul(a, r)
		a.Mod(a, prime())
	}
	return a
}

// expected is the document's tag, in whole numbers.
func expected(key, b []byte) []byte {
	a := gather(worth(cut(key[:16])), b)
	a.Add(a, worth(key[16:]))
	return spread(a.Mod(a, power(128)))
}

// tags holds Tag against what is expected of it, and answers it.
func tags(t *testing.T, key, b []byte) []byte {
	t.Helper()
	got, e := poly.Tag(key, b)
	if want := expected(key, b); e != api.OK || !bytes.Equal(got, want) {
		t.Errorf("Tag by %x of %d bytes, %.80x: %x, error %d; want %x", key, len(b), b, got, e, want)
	}
	return got
}

// refused tells of an answer that is not ErrArg alone.
func refused(t *testing.T, got []byte, e api.Errno, what ...any) {
	t.Helper()
	if e != api.ErrArg || len(got) != 0 {
		t.Errorf("%v: %x, error %d, want nothing and %d", what, got, e, api.ErrArg)
	}
}

// chance is n bytes out of chance, with room behind their end that is not nought.
func chance(r *rand.Rand, n int) []byte {
	b := make([]byte, n+50)
	for i := range b {
		b[i] = byte(r.Uint32())
	}
	for i := n; i < len(b); i++ {
		b[i] |= 1
	}
	return b[:n]
}

// rough is likewise, but made of bytes that are full or nought, mostly.
func rough(r *rand.Rand, n int) []byte {
	b := chance(r, n)
	for i := range b {
		switch r.IntN(8) {
		case 0, 1:
			b[i] = 0
		case 2:
		default:
			b[i] = 255
		}
	}
	return b
}

// whole is a list with the room behind its end.
func whole(b []byte) []byte { return b[:cap(b)] }

// fulls is n bytes whose bits are all 1.
func fulls(n int) []byte { return bytes.Repeat([]byte{255}, n) }

// mixed is n bytes by a short rule.
func mixed(n int) []byte {
	b := make([]byte, n)
	for i := range b {
		b[i] = byte(i*7 + i>>8*13 + 1)
	}
	return b
}

// un is the bytes of these digits.
func un(s string) []byte {
	b, err := hex.DecodeString(s)
	if err != nil {
		panic(err)
	}
	return b
}

// keyOf is the key whose r and s are these numbers.
func keyOf(r, s *big.Int) []byte { return slices.Concat(spread(r), spread(s)) }

// P11.1: what stays of full bytes, of none, and of each bit alone, with all others or without them.
func TestCut(t *testing.T) {
	for _, c := range [][2]string{
		{"ffffffffffffffffffffffffffffffff", "ffffff0ffcffff0ffcffff0ffcffff0f"},
		{"00000000000000000000000000000000", "00000000000000000000000000000000"},
		{"85d6be7857556d337f4452fe42d506a8", "85d6be0854556d037c44520e40d50608"}, // RFC 8439, 2.5.2
	} {
		if got, e := poly.Cut(un(c[0])); e != api.OK || hex.EncodeToString(got) != c[1] {
			t.Errorf("Cut of %s: %x, error %d, want %s", c[0], got, e, c[1])
		}
	}
	for bit := range 128 {
		one, others := make([]byte, 16), fulls(16)
		one[bit/8] ^= 1 << (bit % 8)
		others[bit/8] ^= 1 << (bit % 8)
		for _, r := range [][]byte{one, others} {
			if got, e := poly.Cut(r); e != api.OK || !bytes.Equal(got, cut(r)) {
				t.Errorf("Cut of %x: %x, error %d, want %x", r, got, e, cut(r))
			}
		}
	}
}

// P11.1: Cut of bytes out of chance; what is cut stays so.
func TestCutTwice(t *testing.T) {
	r := rand.New(rand.NewPCG(11, 1))
	for range 300 {
		b := chance(r, 16)
		once, e := poly.Cut(b)
		if e != api.OK || !bytes.Equal(once, cut(b)) {
			t.Errorf("Cut of %x: %x, error %d, want %x", b, once, e, cut(b))
		}
		if twice, e := poly.Cut(once); e != api.OK || !bytes.Equal(twice, once) {
			t.Errorf("Cut of %x: %x, error %d", once, twice, e)
		}
	}
}

// P11.1: all other lengths are refused.
func TestWrong(t *testing.T) {
	b := fulls(1 << 16)
	for _, n := range append([]int{1000, 1<<16 - 1, 1 << 16}, upTo(300)...) {
		if n != 16 {
			got, e := poly.Cut(b[:n])
			refused(t, got, e, "Cut of", n)
		}
		if n == 32 {
			continue
		}
		for _, text := range [][]byte{nil, {}, b[:1], b[:16], b[:32], b[:100]} {
			got, e := poly.Tag(b[:n], text)
			refused(t, got, e, "Tag by", n, "of", len(text))
		}
	}
	got, e := poly.Cut(nil)
	refused(t, got, e, "Cut of nil")
	got, e = poly.Tag(nil, nil)
	refused(t, got, e, "Tag by nil")
	got, e = poly.Tag(nil, b[:32])
	refused(t, got, e, "Tag by nil of what has a key's length")
}

// upTo is the numbers from 0 to n - 1.
func upTo(n int) []int {
	var out []int
	for i := range n {
		out = append(out, i)
	}
	return out
}

// P11.1: the tags of RFC 8439, 2.5.2 and A.3.
func TestTagKnown(t *testing.T) {
	const none = "00000000000000000000000000000000"
	const ietf = `Any submission to the IETF intended by the Contributor for publication as all or part of an IETF Internet-Draft or RFC and any statement made within the context of an IETF activity is considered an "IETF Contribution". Such statements include oral statements in IETF sessions, as well as written and electronic communications made at any time or place, which are addressed to`
	const brillig = "'Twas brillig, and the slithy toves\nDid gyre and gimble in the wabe:\nAll mimsy were the borogoves,\nAnd the mome raths outgrabe."
	const third = "e33594d7505e43b900000000000000003394d7505e4379cd0100000000000000" + none
	for _, c := range [][4]string{
		{"85d6be7857556d337f4452fe42d506a8", "0103808afb0db2fd4abff6af4149f51b", "Cryptographic Forum Research Group", "a8061dc1305136c6c22b8baf0c0127a9"},
		{none, none, string(make([]byte, 64)), none},
		{none, "36e5f6b5c5e06070f0efca96227a863e", ietf, "36e5f6b5c5e06070f0efca96227a863e"},
		{"36e5f6b5c5e06070f0efca96227a863e", none, ietf, "f3477e7cd95417af89a6b8794c310cf0"},
		{"1c9240a5eb55d38af333888604f6b5f0", "473917c1402b80099dca5cbc207075c0", brillig, "4541669a7eaaee61e708dc7cbcc5eb62"},
		{"02" + none[2:], none, string(fulls(16)), "03" + none[2:]},
		{"02" + none[2:], "ffffffffffffffffffffffffffffffff", string(un("02" + none[2:])), "03" + none[2:]},
		{"01" + none[2:], none, string(un("fffffffffffffffffffffffffffffffff0ffffffffffffffffffffffffffffff11" + none[2:])), "05" + none[2:]},
		{"01" + none[2:], none, string(un("fffffffffffffffffffffffffffffffffbfefefefefefefefefefefefefefefe01010101010101010101010101010101")), none},
		{"02" + none[2:], none, string(un("fdffffffffffffffffffffffffffffff")), "faffffffffffffffffffffffffffffff"},
		{"01000000000000000400000000000000", none, string(un(third + "01" + none[2:])), "14000000000000005500000000000000"},
		{"01000000000000000400000000000000", none, string(un(third)), "13000000000000000000000000000000"},
	} {
		if got := hex.EncodeToString(tags(t, un(c[0]+c[1]), []byte(c[2]))); got != c[3] {
			t.Errorf("Tag by %s %s of %.40q: %s, want %s", c[0], c[1], c[2], got, c[3])
		}
	}
}

// P11.1: the tags that OpenSSL makes, of long ones, too.
func TestTagElsewhere(t *testing.T) {
	key := un("808182838485868788898a8b8c8d8e8f909192939495969798999a9b9c9d9e9f")
	for _, c := range []struct {
		key, b []byte
		want   string
	}{
		{key, mixed(1), "1f9396191c9fa22528abae3134b7ba3d"},
		{key, mixed(15), "dedd4beaf88e8eb7495cd16862d5a321"},
		{key, mixed(16), "a1a87bddd16dd2be364f298463dc0fbd"},
		{key, mixed(17), "d13562decd2ed4a0e309d97b73a3ca62"},
		{key, mixed(1000), "8c9a8f34403520c122abc6cba831d896"},
		{key, mixed(65536), "ca150e27bb86f0a1fc431bdb64fed729"},
		{key, mixed(100003), "2c2eac980b6b6ae94a1d535c37b8dc04"},
		{key, fulls(100003), "a36ce69568a13f96ee4c3f3d744eed4f"},
		{fulls(32), nil, "ffffffffffffffffffffffffffffffff"},
		{fulls(32), mixed(1), "12ffff0f0cfcff0f0cfcff0f0cfcff0f"},
		{fulls(32), mixed(16), "4c14d6e79c50fdf99938d0b742cc4e21"},
		{fulls(32), mixed(1000), "ec3fa4a6e1ad9799bedeeae5c9d73c3c"},
		{fulls(32), mixed(100003), "b527ce91c94f5283c3167053891ee036"},
		{fulls(32), fulls(100003), "fbf013d3edcf211cdbe4b8853a2cdb75"},
	} {
		if got, e := poly.Tag(c.key, c.b); e != api.OK || hex.EncodeToString(got) != c.want {
			t.Errorf("Tag by %x of %d bytes: %x, error %d, want %s", c.key, len(c.b), got, e, c.want)
		}
	}
}

// P11.1: all lengths of some blocks, and longer ones, of bytes out of chance, and of full and empty ones.
func TestLengths(t *testing.T) {
	r := rand.New(rand.NewPCG(11, 2))
	for n := range 260 {
		tags(t, chance(r, 32), chance(r, n))
		tags(t, rough(r, 32), rough(r, n))
		tags(t, fulls(32), fulls(n))
		tags(t, fulls(32), make([]byte, n))
		tags(t, make([]byte, 32), fulls(n))
	}
	for range 100 {
		tags(t, chance(r, 32), chance(r, r.IntN(5000)))
		tags(t, rough(r, 32), rough(r, r.IntN(5000)))
	}
}

// P11.1: with 1 as r and 0 as s, a is a sum: those around all multiples of 2^128 that few blocks reach, and of the prime.
func TestSums(t *testing.T) {
	one, full := power(128), new(big.Int).Sub(power(128), big.NewInt(1))
	for blocks := int64(1); blocks <= 9; blocks++ {
		for times := blocks; times <= 2*blocks; times++ {
			for away := int64(-30); away <= 30; away++ {
				rest := new(big.Int).Mul(one, big.NewInt(times-blocks)) // beside each block's last 1
				rest.Add(rest, big.NewInt(away))
				if rest.Sign() < 0 {
					continue
				}
				var b []byte
				for range blocks {
					part := full
					if rest.Cmp(full) < 0 {
						part = rest
					}
					b = append(b, spread(part)...)
					rest = new(big.Int).Sub(rest, part)
				}
				tags(t, keyOf(big.NewInt(1), new(big.Int)), b)
				tags(t, keyOf(big.NewInt(1), full), b)
			}
		}
	}
}

// P11.1: blocks behind which a is next to 0 or to the prime, whatever r is; more blocks may follow.
func TestEnds(t *testing.T) {
	r := rand.New(rand.NewPCG(11, 3))
	met := 0
	for away := int64(-20); away <= 20; away++ {
		for range 40 {
			number, ahead := worth(cut(chance(r, 16))), chance(r, 16*r.IntN(4))
			if number.Sign() == 0 {
				continue
			}
			block := new(big.Int).ModInverse(number, prime())
			block.Mul(block, big.NewInt(away))
			block.Sub(block, gather(number, ahead))
			block.Mod(block, prime())
			if block.BitLen() != 129 { // no full block has that number
				continue
			}
			met++
			b := append(bytes.Clone(ahead), spread(block.Sub(block, power(128)))...)
			for _, s := range [][]byte{make([]byte, 16), fulls(16), chance(r, 16)} {
				key := slices.Concat(spread(number), s)
				tags(t, key, b)
				tags(t, key, slices.Concat(b, chance(r, 1+r.IntN(40))))
			}
		}
	}
	if met < 200 {
		t.Error("too few such blocks:", met)
	}
}

// P11.1: the sum with s is modulo 2^128: on both sides of it.
func TestCarry(t *testing.T) {
	r := rand.New(rand.NewPCG(11, 4))
	for n := range 80 {
		half, b := chance(r, 16), chance(r, n)
		a := gather(worth(cut(half)), b)
		for away := int64(-3); away <= 3; away++ {
			s := new(big.Int).Sub(big.NewInt(away), a)
			got := tags(t, slices.Concat(half, spread(s.Mod(s, power(128)))), b)
			want := big.NewInt(away)
			if !bytes.Equal(got, spread(want.Mod(want, power(128)))) {
				t.Errorf("%d bytes: %x, want %d", n, got, away)
			}
		}
	}
}

// P11.1: each bit of s, each of r that is not cut, and each of the bytes counts.
func TestBits(t *testing.T) {
	r := rand.New(rand.NewPCG(11, 5))
	for _, n := range []int{1, 15, 16, 17, 50} {
		key, b := chance(r, 32), chance(r, n)
		seen := map[string]int{string(tags(t, key, b)): 1}
		unlike := 1
		for i := range 256 {
			if i < 128 && isCut(i) {
				continue
			}
			key[i/8] ^= 1 << (i % 8)
			seen[string(tags(t, key, b))]++
			key[i/8] ^= 1 << (i % 8)
			unlike++
		}
		for i := range 8 * n {
			b[i/8] ^= 1 << (i % 8)
			seen[string(tags(t, key, b))]++
			b[i/8] ^= 1 << (i % 8)
			unlike++
		}
		if len(seen) != unlike {
			t.Errorf("%d bytes: %d unlike tags, want %d", n, len(seen), unlike)
		}
	}
}

// P11.2: the bits that are cut change nothing, each alone or all at once.
func TestCutBits(t *testing.T) {
	r := rand.New(rand.NewPCG(11, 6))
	for _, n := range []int{0, 1, 16, 33, 200} {
		key, b := chance(r, 32), chance(r, n)
		want := tags(t, key, b)
		for bit := range 128 {
			if !isCut(bit) {
				continue
			}
			other := bytes.Clone(key)
			other[bit/8] ^= 1 << (bit % 8)
			if got := tags(t, other, b); !bytes.Equal(got, want) {
				t.Errorf("bit %d changes the tag of %d bytes: %x, want %x", bit, n, got, want)
			}
		}
		half, _ := poly.Cut(key[:16])
		if got := tags(t, slices.Concat(half, key[16:]), b); !bytes.Equal(got, want) {
			t.Errorf("cut ahead, the tag of %d bytes is %x, want %x", n, got, want)
		}
	}
}

// P11.2: of no bytes, nil, empty, or cut off a longer list, the tag is s, whatever r is.
func TestNone(t *testing.T) {
	r := rand.New(rand.NewPCG(11, 7))
	for _, key := range [][]byte{chance(r, 32), rough(r, 32), make([]byte, 32), fulls(32)} {
		for _, b := range [][]byte{nil, {}, chance(r, 5)[:0]} {
			if got, e := poly.Tag(key, b); e != api.OK || !bytes.Equal(got, key[16:]) {
				t.Errorf("Tag by %x of none: %x, error %d", key, got, e)
			}
		}
	}
}

// P11.2: any noughts behind the bytes are told.
func TestNoughts(t *testing.T) {
	r := rand.New(rand.NewPCG(11, 8))
	for n := range 70 {
		key, b := chance(r, 32), chance(r, n)
		for _, text := range [][]byte{b, make([]byte, n)} {
			seen := map[string]int{}
			for more := range 40 {
				seen[string(tags(t, key, append(bytes.Clone(text), make([]byte, more)...)))]++
			}
			if len(seen) != 40 {
				t.Errorf("%d bytes and up to 39 noughts: %d unlike tags", n, len(seen))
			}
		}
	}
}

// P11.2: with 1 as r and 0 as s the tag of a short block shows its number: the bytes, and a 1 behind them.
func TestNumbers(t *testing.T) {
	r := rand.New(rand.NewPCG(11, 9))
	key := keyOf(big.NewInt(1), new(big.Int))
	for n := 1; n <= 16; n++ {
		b := chance(r, n)
		want := append(append(bytes.Clone(b), 1), make([]byte, 16)...)[:16]
		if got := tags(t, key, b); !bytes.Equal(got, want) {
			t.Errorf("%d bytes: %x, want %x", n, got, want)
		}
	}
}

// What is handed in is not changed, and an answer is new memory, spare room too, in which nothing else is left.
func TestMemory(t *testing.T) {
	r := rand.New(rand.NewPCG(11, 10))
	for _, n := range []int{0, 1, 15, 16, 17, 200} {
		key, b := chance(r, 32), chance(r, n)
		lists := [][]byte{whole(key), whole(b)}
		was := [][]byte{bytes.Clone(lists[0]), bytes.Clone(lists[1])}
		tag, again := tags(t, key, b), tags(t, key, b)
		half, _ := poly.Cut(key[:16])
		other, _ := poly.Cut(key[:16])
		wantTag, wantHalf := bytes.Clone(tag), bytes.Clone(half)
		for _, x := range [][]byte{whole(again), whole(other)} {
			for i := range x {
				if i >= 16 && x[i] != 0 {
					t.Errorf("%d bytes: something is left behind an answer: %x", n, x)
				}
				x[i] ^= 255
			}
		}
		for i := range lists {
			if !bytes.Equal(lists[i], was[i]) {
				t.Errorf("%d bytes: list %d was changed", n, i)
			}
			for k := range lists[i] {
				lists[i][k] ^= 255
			}
		}
		if !bytes.Equal(tag, wantTag) || !bytes.Equal(half, wantHalf) {
			t.Errorf("%d bytes: an answer was changed from outside", n)
		}
	}
}

// Key and bytes may lie in one list; what stands behind either of them is not read.
func TestOneList(t *testing.T) {
	r := rand.New(rand.NewPCG(11, 11))
	b := chance(r, 200)
	was := bytes.Clone(whole(b))
	want := expected(bytes.Clone(b[10:42]), bytes.Clone(b[5:95]))
	if got, e := poly.Tag(b[10:42], b[5:95]); e != api.OK || !bytes.Equal(got, want) {
		t.Errorf("of one list: %x, error %d, want %x", got, e, want)
	}
	if !bytes.Equal(whole(b), was) {
		t.Error("the list was changed")
	}
	for i := 95; i < len(b); i++ {
		b[i] ^= 255
	}
	if got := tags(t, b[10:42], b[5:95]); !bytes.Equal(got, want) {
		t.Errorf("with other bytes behind: %x, want %x", got, want)
	}
}
