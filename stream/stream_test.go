package stream_test

import (
	"bytes"
	"crypto/sha256"
	"encoding/binary"
	"encoding/hex"
	"math"
	"math/rand/v2"
	"slices"
	"testing"

	"sealwax/api"
	"sealwax/stream"
)

// two32 is what all is modulo of.
const two32 = 1 << 32

// places are those of the quarters of a round, in order.
var places = [8][4]int{{0, 4, 8, 12}, {1, 5, 9, 13}, {2, 6, 10, 14}, {3, 7, 11, 15}, {0, 5, 10, 15}, {1, 6, 11, 12}, {2, 7, 8, 13}, {3, 4, 9, 14}}

// edges are counters beside which something could go wrong.
var edges = []uint32{0, 1, 2, 255, 256, 1<<16 - 1, 1<<31 - 2, 1<<31 - 1, 1 << 31, math.MaxUint32 - 2}

// turned is a number below 2^32 turned left by n.
func turned(x uint64, n int) uint64 { return x<<n%two32 + x>>(32-n) }

// quarter is the document's quarter, in numbers that have room for more than its words.
func quarter(w [4]uint64) [4]uint64 {
	a, b, c, d := w[0], w[1], w[2], w[3]
	for _, by := range [2][2]int{{16, 12}, {8, 7}} {
		a = (a + b) % two32
		d = turned(d^a, by[0])
		c = (c + d) % two32
		b = turned(b^c, by[1])
	}
	return [4]uint64{a, b, c, d}
}

// block is the document's block, word by word.
func block(key, nonce []byte, counter uint64) []byte {
	b := slices.Concat([]byte("expand 32-byte k"), key, binary.LittleEndian.AppendUint32(nil, uint32(counter)), nonce)
	var first, w [16]uint64
	for i := range w {
		first[i] = uint64(binary.LittleEndian.Uint32(b[4*i:]))
	}
	w = first
	for range 10 {
		for _, p := range places {
			q := quarter([4]uint64{w[p[0]], w[p[1]], w[p[2]], w[p[3]]})
			for i, at := range p {
				w[at] = q[i]
			}
		}
	}
	var out []byte
	for i := range w {
		out = binary.LittleEndian.AppendUint32(out, uint32((w[i]+first[i])%two32))
	}
	return out
}

// expected is what P10.1 says of Xor, word by word.
func expected(key, nonce []byte, counter uint32, b []byte) ([]byte, api.Errno) {
	if len(key) != 32 || len(nonce) != 12 {
		return nil, api.ErrArg
	}
	if len(b) > 0 && uint64(counter)+uint64(len(b)-1)/64 > math.MaxUint32 {
		return nil, api.ErrLong
	}
	out := []byte{}
	for at := 0; at < len(b); at += 64 {
		for i, x := range block(key, nonce, uint64(counter)+uint64(at/64)) {
			if at+i < len(b) {
				out = append(out, b[at+i]^x)
			}
		}
	}
	return out, api.OK
}

// xors holds Xor against what is expected of it, and answers it.
func xors(t *testing.T, key, nonce []byte, counter uint32, b []byte) []byte {
	t.Helper()
	got, e := stream.Xor(key, nonce, counter, b)
	want, wrong := expected(key, nonce, counter, b)
	if e != wrong || !bytes.Equal(got, want) {
		t.Errorf("Xor of key %x, nonce %x, counter %d, %d bytes: %.80x, error %d; want %.80x, error %d", key, nonce, counter, len(b), got, e, want, wrong)
	}
	return got
}

// blocks holds Block against what is expected of it, and answers it.
func blocks(t *testing.T, key, nonce []byte, counter uint32) []byte {
	t.Helper()
	got, e := stream.Block(key, nonce, counter)
	if want := block(key, nonce, uint64(counter)); e != api.OK || !bytes.Equal(got, want) {
		t.Errorf("Block of key %x, nonce %x, counter %d: %x, error %d; want %x", key, nonce, counter, got, e, want)
	}
	return got
}

// refused tells of an answer that is not this error alone.
func refused(t *testing.T, got []byte, e, want api.Errno, what ...any) {
	t.Helper()
	if e != want || len(got) != 0 {
		t.Errorf("%v: %x, error %d, want nothing and %d", what, got, e, want)
	}
}

// chance is n bytes out of chance, with room behind their end that is not nought.
func chance(r *rand.Rand, n int) []byte {
	b := make([]byte, n+100)
	for i := range b {
		b[i] = byte(r.Uint32()) | 1<<(r.Uint32()%8)
	}
	return b[:n]
}

// whole is a list with the room behind its end.
func whole(b []byte) []byte { return b[:cap(b)] }

// un is the bytes of these digits.
func un(s string) []byte {
	b, err := hex.DecodeString(s)
	if err != nil {
		panic(err)
	}
	return b
}

// last is n bytes, all but the last one nought.
func last(n int, b byte) []byte {
	out := make([]byte, n)
	out[n-1] = b
	return out
}

// upTo is the bytes from 0 to n - 1.
func upTo(n int) []byte {
	out := make([]byte, n)
	for i := range out {
		out[i] = byte(i)
	}
	return out
}

// P10.1: the quarters of RFC 8439, 2.1.1 and 2.2.1.
func TestQuarterKnown(t *testing.T) {
	for _, c := range [][2][4]uint32{
		{{0x11111111, 0x01020304, 0x9b8d6f43, 0x01234567}, {0xea2a92f4, 0xcb1cf8ce, 0x4581472e, 0x5881c4bb}},
		{{0x516461b1, 0x2a5f714c, 0x53372767, 0x3d631689}, {0xbdb886dc, 0xcfacafd2, 0xe46bea80, 0xccc07c79}},
		{{}, {}},
	} {
		if got := stream.Quarter(c[0]); got != c[1] {
			t.Errorf("Quarter of %x: %x, want %x", c[0], got, c[1])
		}
	}
}

// P10.1: quarters of each bit, of words that are full, and of words out of chance.
func TestQuarter(t *testing.T) {
	all := [][4]uint32{{math.MaxUint32, math.MaxUint32, math.MaxUint32, math.MaxUint32}, {math.MaxUint32, 1}, {0, 0, math.MaxUint32, 1}}
	for i := range 4 {
		for bit := range 32 {
			var w [4]uint32
			w[i] = 1 << bit
			all = append(all, w)
		}
	}
	r := rand.New(rand.NewPCG(10, 1))
	for range 1000 {
		all = append(all, [4]uint32{r.Uint32(), r.Uint32(), r.Uint32(), r.Uint32()})
	}
	for _, w := range all {
		got := stream.Quarter(w)
		want := quarter([4]uint64{uint64(w[0]), uint64(w[1]), uint64(w[2]), uint64(w[3])})
		for i := range want {
			if uint64(got[i]) != want[i] {
				t.Errorf("Quarter of %x: %x, want %x", w, got, want)
			}
		}
	}
}

// P10.1: the blocks of RFC 8439, 2.3.2 and A.1.
func TestBlockKnown(t *testing.T) {
	second := make([]byte, 32)
	second[1] = 255
	for _, c := range []struct {
		key, nonce []byte
		counter    uint32
		want       string
	}{
		{upTo(32), un("000000090000004a00000000"), 1, "10f1e7e4d13b5915500fdd1fa32071c4c7d1f4c733c068030422aa9ac3d46c4ed2826446079faa0914c2d705d98b02a2b5129cd1de164eb9cbd083e8a2503c4e"},
		{make([]byte, 32), make([]byte, 12), 0, "76b8e0ada0f13d90405d6ae55386bd28bdd219b8a08ded1aa836efcc8b770dc7da41597c5157488d7724e03fb8d84a376a43b8f41518a11cc387b669b2ee6586"},
		{make([]byte, 32), make([]byte, 12), 1, "9f07e7be5551387a98ba977c732d080dcb0f29a048e3656912c6533e32ee7aed29b721769ce64e43d57133b074d839d531ed1f28510afb45ace10a1f4b794d6f"},
		{last(32, 1), make([]byte, 12), 1, "3aeb5224ecf849929b9d828db1ced4dd832025e8018b8160b82284f3c949aa5a8eca00bbb4a73bdad192b5c42f73f2fd4e273644c8b36125a64addeb006c13a0"},
		{second, make([]byte, 12), 2, "72d54dfbf12ec44b362692df94137f328fea8da73990265ec1bbbea1ae9af0ca13b25aa26cb4a648cb9b9d1be65b2c0924a66c54d545ec1b7374f4872e99f096"},
		{make([]byte, 32), last(12, 2), 0, "c2c64d378cd536374ae204b9ef933fcd1a8b2288b3dfa49672ab765b54ee27c78a970e0e955c14f3a88e741b97c286f75f8fc299e8148362fa198a39531bed6d"},
	} {
		if got := hex.EncodeToString(blocks(t, c.key, c.nonce, c.counter)); got != c.want {
			t.Errorf("Block of key %x, nonce %x, counter %d: %s, want %s", c.key, c.nonce, c.counter, got, c.want)
		}
	}
}

// P10.1: the texts of RFC 8439, 2.4.2 and A.2.
func TestXorKnown(t *testing.T) {
	for _, c := range []struct {
		key, nonce []byte
		counter    uint32
		text, want string
	}{
		{
			upTo(32), un("000000000000004a00000000"), 1,
			"Ladies and Gentlemen of the class of '99: If I could offer you only one tip for the future, sunscreen would be it.",
			"6e2e359a2568f98041ba0728dd0d6981e97e7aec1d4360c20a27afccfd9fae0bf91b65c5524733ab8f593dabcd62b3571639d624e65152ab8f530c359f0861d807ca0dbf500d6a6156a38e088a22b65e52bc514d16ccf806818ce91ab77937365af90bbf74a35be6b40b8eedf2785e42874d",
		},
		{
			last(32, 1), last(12, 2), 1,
			`Any submission to the IETF intended by the Contributor for publication as all or part of an IETF Internet-Draft or RFC and any statement made within the context of an IETF activity is considered an "IETF Contribution". Such statements include oral statements in IETF sessions, as well as written and electronic communications made at any time or place, which are addressed to`,
			"a3fbf07df3fa2fde4f376ca23e82737041605d9f4f4f57bd8cff2c1d4b7955ec2a97948bd3722915c8f3d337f7d370050e9e96d647b7c39f56e031ca5eb6250d4042e02785ececfa4b4bb5e8ead0440e20b6e8db09d881a7c6132f420e52795042bdfa7773d8a9051447b3291ce1411c680465552aa6c405b7764d5e87bea85ad00f8449ed8f72d0d662ab052691ca66424bc86d2df80ea41f43abf937d3259dc4b2d0dfb48a6c9139ddd7f76966e928e635553ba76c5c879d7b35d49eb2e62b0871cdac638939e25e8a1e0ef9d5280fa8ca328b351c3c765989cbcf3daa8b6ccc3aaf9f3979c92b3720fc88dc95ed84a1be059c6499b9fda236e7e818b04b0bc39c1e876b193bfe5569753f88128cc08aaa9b63d1a16f80ef2554d7189c411f5869ca52c5b83fa36ff216b9c1d30062bebcfd2dc5bce0911934fda79a86f6e698ced759c3ff9b6477338f3da4f9cd8514ea9982ccafb341b2384dd902f3d1ab7ac61dd29c6f21ba5b862f3730e37cfdc4fd806c22f221",
		},
		{
			un("1c9240a5eb55d38af333888604f6b5f0473917c1402b80099dca5cbc207075c0"), last(12, 2), 42,
			"'Twas brillig, and the slithy toves\nDid gyre and gimble in the wabe:\nAll mimsy were the borogoves,\nAnd the mome raths outgrabe.",
			"62e6347f95ed87a45ffae7426f27a1df5fb69110044c0d73118effa95b01e5cf166d3df2d721caf9b21e5fb14c616871fd84c54f9d65b283196c7fe4f60553ebf39c6402c42234e32a356b3e764312a61a5532055716ead6962568f87d3f3f7704c6a8d1bcd1bf4d50d6154b6da731b187b58dfd728afa36757a797ac188d1",
		},
	} {
		if got := hex.EncodeToString(xors(t, c.key, c.nonce, c.counter, []byte(c.text))); got != c.want {
			t.Errorf("Xor of %.20q: %s, want %s", c.text, got, c.want)
		}
	}
}

// P10.1: long ones, and those of high counters, by the SHA-256 of what OpenSSL makes of as many noughts.
func TestXorElsewhere(t *testing.T) {
	for _, c := range []struct {
		counter uint32
		n       int
		want    string
	}{
		{0, 100000, "85f4eeca71e16a86c936d77958d688e4b3051dca8fdeb4bec43d188f078d2d0c"},
		{1<<31 - 1, 4097, "56e8b2698c8cc0dd86bd0dc926df7996961da1c087e80b46ea8a07671fb2d857"},
		{math.MaxUint32, 64, "f2a2b9e16156034776d4120a4d76e12bab0589d1186c14bfa6c93d4401982373"},
		{math.MaxUint32 - 255, 16384, "0c6e1664bcfe08c8209a35ac8c750747f94786a3ebb943fff6c7fde322cf7b81"},
		{math.MaxUint32 - 1, 127, "97f30de85a5314540901d3e370e9bd33367f95ae5c2810e1f5380b6b1ccb3fc5"},
	} {
		digest := sha256.Sum256(xors(t, upTo(32), un("fffefdfcfbfaf9f8f7f6f5f4"), c.counter, make([]byte, c.n)))
		if got := hex.EncodeToString(digest[:]); got != c.want {
			t.Errorf("the sum of %d noughts from counter %d on: %s, want %s", c.n, c.counter, got, c.want)
		}
	}
}

// P10.1: all lengths of some blocks, and longer ones, of bytes out of chance.
func TestLengths(t *testing.T) {
	r := rand.New(rand.NewPCG(10, 2))
	key, nonce := chance(r, 32), chance(r, 12)
	for n := range 330 {
		for _, counter := range edges {
			xors(t, key, nonce, counter, chance(r, n))
		}
	}
	for range 60 {
		xors(t, chance(r, 32), chance(r, 12), r.Uint32(), chance(r, r.IntN(1<<14)))
	}
}

// P10.1: each bit of the key, of the nonce and of the counter counts.
func TestBits(t *testing.T) {
	r := rand.New(rand.NewPCG(10, 3))
	key, nonce, counter := chance(r, 32), chance(r, 12), r.Uint32()
	seen := map[string]int{string(blocks(t, key, nonce, counter)): 1}
	for i := range 256 {
		key[i/8] ^= 1 << (i % 8)
		seen[string(blocks(t, key, nonce, counter))]++
		key[i/8] ^= 1 << (i % 8)
	}
	for i := range 96 {
		nonce[i/8] ^= 1 << (i % 8)
		seen[string(blocks(t, key, nonce, counter))]++
		nonce[i/8] ^= 1 << (i % 8)
	}
	for i := range 32 {
		seen[string(blocks(t, key, nonce, counter^1<<i))]++
	}
	if len(seen) != 1+256+96+32 {
		t.Error("unlike blocks:", len(seen))
	}
}

// P10.1: keys and nonces that are full, and all counters beside the edges.
func TestBlockEdges(t *testing.T) {
	full := bytes.Repeat([]byte{255}, 32)
	for _, counter := range edges {
		for i := range uint32(3) {
			blocks(t, full, full[:12], counter+i)
			blocks(t, upTo(32), make([]byte, 12), counter+i)
		}
	}
}

// P10.1: Xor goes to the last counter, and not beyond.
func TestLong(t *testing.T) {
	key, nonce := upTo(32), upTo(12)
	b := make([]byte, 64*300)
	for left := range 260 { // blocks behind the first one
		counter := math.MaxUint32 - uint32(left)
		most := 64 * (left + 1)
		for _, n := range []int{0, 1, most - 64, most - 63, most - 1, most} {
			got, e := stream.Xor(key, nonce, counter, b[:n])
			if e != api.OK || len(got) != n {
				t.Errorf("%d bytes from counter %d on: %d bytes, error %d", n, counter, len(got), e)
			}
		}
		for _, n := range []int{most + 1, most + 63, most + 64, most + 65, len(b)} {
			got, e := stream.Xor(key, nonce, counter, b[:n])
			refused(t, got, e, api.ErrLong, n, "bytes from counter", counter, "on")
		}
	}
	xors(t, key, nonce, math.MaxUint32-3, b[:256])
	xors(t, key, nonce, math.MaxUint32-3, b[:257])
	b = make([]byte, 1<<24+1)
	const first = two32 - 1<<18 // from there on there are 2^24 bytes
	if got, e := stream.Xor(key, nonce, first, b[:1<<24]); e != api.OK || !bytes.Equal(got[1<<24-64:], block(key, nonce, math.MaxUint32)) {
		t.Errorf("2^24 bytes: %d bytes, error %d, or another block at the end", len(got), e)
	}
	got, e := stream.Xor(key, nonce, first, b)
	refused(t, got, e, api.ErrLong, "one byte more than 2^24")
	got, e = stream.Xor(key, nonce, first+1, b[:1<<24])
	refused(t, got, e, api.ErrLong, "2^24 bytes from one counter farther on")
	if got, e := stream.Xor(key, nonce, 0, b); e != api.OK || len(got) != len(b) {
		t.Errorf("a byte more than 2^24 from the first counter on: %d bytes, error %d", len(got), e)
	}
}

// P10.1: keys and nonces of wrong lengths, ahead of what is too long.
func TestWrong(t *testing.T) {
	b := bytes.Repeat([]byte{1}, 300)
	for n := range 300 {
		for _, c := range [][2][]byte{{b[:n], b[:12]}, {b[:32], b[:n]}, {b[:n], b[:n]}, {b[:n], nil}, {nil, b[:n]}, {b[:12], b[:n]}, {b[:n], b[:32]}} {
			if len(c[0]) == 32 && len(c[1]) == 12 {
				continue
			}
			for _, counter := range []uint32{0, 1, math.MaxUint32} {
				got, e := stream.Block(c[0], c[1], counter)
				refused(t, got, e, api.ErrArg, "Block of", len(c[0]), len(c[1]), counter)
				for _, text := range [][]byte{nil, b[:1], b[:64], b} {
					got, e = stream.Xor(c[0], c[1], counter, text)
					refused(t, got, e, api.ErrArg, "Xor of", len(c[0]), len(c[1]), counter, len(text))
				}
			}
		}
	}
}

// P10.1: no bytes are none, nil or empty, or cut off a longer list, with each counter.
func TestNone(t *testing.T) {
	for _, counter := range append(edges, math.MaxUint32-1, math.MaxUint32) {
		for _, b := range [][]byte{nil, {}, upTo(5)[:0]} {
			if got, e := stream.Xor(upTo(32), upTo(12), counter, b); len(got) != 0 || e != api.OK {
				t.Errorf("Xor of none, counter %d: %x, error %d", counter, got, e)
			}
		}
	}
}

// P10.2: Xor twice is what was.
func TestTwice(t *testing.T) {
	r := rand.New(rand.NewPCG(10, 4))
	for n := range 400 {
		key, nonce, counter, b := chance(r, 32), chance(r, 12), r.Uint32()>>1, chance(r, n)
		once, _ := stream.Xor(key, nonce, counter, b)
		if n > 16 && bytes.Equal(once, b) {
			t.Errorf("%d bytes stay as they were: %x", n, b)
		}
		if twice, e := stream.Xor(key, nonce, counter, once); e != api.OK || !bytes.Equal(twice, b) {
			t.Errorf("twice: %x, error %d, want %x", twice, e, b)
		}
	}
}

// P10.2: what stands behind changes nothing of what stands ahead, nor the other way round.
func TestBehind(t *testing.T) {
	r := rand.New(rand.NewPCG(10, 5))
	key, nonce := chance(r, 32), chance(r, 12)
	b := chance(r, 260)
	all := xors(t, key, nonce, 7, b)
	for n := range len(b) {
		if got := xors(t, key, nonce, 7, b[:n]); !bytes.Equal(got, all[:n]) {
			t.Errorf("the first %d alone: %x, want %x", n, got, all[:n])
		}
		b[n] ^= 0x81
		all[n] ^= 0x81
		if got := xors(t, key, nonce, 7, b); !bytes.Equal(got, all) {
			t.Errorf("byte %d changed: %x, want %x", n, got, all)
		}
	}
	for i := range 5 {
		if got := xors(t, key, nonce, 7+uint32(i), b[64*i:]); !bytes.Equal(got, all[64*i:]) {
			t.Errorf("from block %d on: %x, want %x", i, got, all[64*i:])
		}
	}
}

// P10.1: Block is what Xor makes of noughts.
func TestBlockIsXor(t *testing.T) {
	r := rand.New(rand.NewPCG(10, 6))
	for _, counter := range append(edges, math.MaxUint32-1, math.MaxUint32) {
		key, nonce := chance(r, 32), chance(r, 12)
		b, e := stream.Block(key, nonce, counter)
		x, f := stream.Xor(key, nonce, counter, make([]byte, 64))
		if e != api.OK || f != api.OK || !bytes.Equal(b, x) || len(b) != 64 {
			t.Errorf("counter %d: block %x, error %d, Xor %x, error %d", counter, b, e, x, f)
		}
	}
}

// What is handed in is not changed, and an answer is new memory, spare room too.
func TestMemory(t *testing.T) {
	r := rand.New(rand.NewPCG(10, 7))
	for _, n := range []int{0, 1, 63, 64, 65, 200} {
		key, nonce, b := chance(r, 32), chance(r, 12), chance(r, n)
		lists := [][]byte{whole(key), whole(nonce), whole(b)}
		was := [][]byte{bytes.Clone(lists[0]), bytes.Clone(lists[1]), bytes.Clone(lists[2])}
		first, again := xors(t, key, nonce, 3, b), xors(t, key, nonce, 3, b)
		made, other := blocks(t, key, nonce, 3), blocks(t, key, nonce, 3)
		wantFirst, wantMade := bytes.Clone(first), bytes.Clone(made)
		for i := range whole(again) {
			whole(again)[i] ^= 255
		}
		for i := range whole(other) {
			whole(other)[i] ^= 255
		}
		for i := range lists {
			if !bytes.Equal(lists[i], was[i]) {
				t.Errorf("%d bytes: list %d was changed", n, i)
			}
			for k := range lists[i] {
				lists[i][k] ^= 255
			}
		}
		if !bytes.Equal(first, wantFirst) || !bytes.Equal(made, wantMade) {
			t.Errorf("%d bytes: an answer was changed from outside", n)
		}
	}
}

// Key, nonce and bytes may lie in one list.
func TestOneList(t *testing.T) {
	r := rand.New(rand.NewPCG(10, 8))
	b := chance(r, 200)
	was := bytes.Clone(whole(b))
	want, _ := expected(bytes.Clone(b[10:42]), bytes.Clone(b[30:42]), 9, bytes.Clone(b))
	if got, e := stream.Xor(b[10:42], b[30:42], 9, b); e != api.OK || !bytes.Equal(got, want) {
		t.Errorf("of one list: %x, error %d, want %x", got, e, want)
	}
	if !bytes.Equal(whole(b), was) {
		t.Error("the list was changed")
	}
}
