package aead_test

import (
	"bytes"
	"crypto/sha256"
	"encoding/binary"
	"encoding/hex"
	"math/rand/v2"
	"slices"
	"testing"

	"sealwax/aead"
	"sealwax/api"
	"sealwax/poly"
	"sealwax/stream"
)

// parts are what a box is made of, but for its key.
type parts struct{ key, nonce, other, text []byte }

// hidden is the document's c, block by block; the same makes the text of c.
func hidden(key, nonce, text []byte) []byte {
	var out []byte
	counter := uint32(1)
	for part := range slices.Chunk(text, 64) {
		block, _ := stream.Block(key, nonce, counter)
		for i, x := range part {
			out = append(out, x^block[i])
		}
		counter++
	}
	return out
}

// upTo16 is some bytes, and noughts up to a multiple of 16.
func upTo16(b []byte) []byte {
	out := bytes.Clone(b)
	for len(out)%16 != 0 {
		out = append(out, 0)
	}
	return out
}

// count is how many bytes there are, in 8 bytes, the lowest first.
func count(b []byte) []byte { return binary.LittleEndian.AppendUint64(nil, uint64(len(b))) }

// tagged is the tag, by the first 32 bytes of a counter's block, of all these.
func tagged(key, nonce []byte, counter uint32, all ...[]byte) []byte {
	block, _ := stream.Block(key, nonce, counter)
	tag, _ := poly.Tag(block[:32], slices.Concat(all...))
	return tag
}

// boxed is the box that has this c, by the document's words.
func boxed(key, nonce, other, c []byte) []byte {
	return slices.Concat(c, tagged(key, nonce, 0, upTo16(other), upTo16(c), count(other), count(c)))
}

// expected is the document's box.
func expected(p parts) []byte { return boxed(p.key, p.nonce, p.other, hidden(p.key, p.nonce, p.text)) }

// seals holds Seal against what is expected of it, opens what it has made, and answers that.
func seals(t *testing.T, p parts) []byte {
	t.Helper()
	box, e := aead.Seal(p.key, p.nonce, p.other, p.text)
	if want := expected(p); e != api.OK || !bytes.Equal(box, want) || len(box) != len(p.text)+16 {
		t.Errorf("Seal of %d bytes, bound to %d: %.80x, error %d; want %.80x", len(p.text), len(p.other), box, e, want)
	}
	opens(t, p, box)
	return box
}

// opens holds Open against the text whose box it is handed.
func opens(t *testing.T, p parts, box []byte) {
	t.Helper()
	if text, e := aead.Open(p.key, p.nonce, p.other, box); e != api.OK || !bytes.Equal(text, p.text) {
		t.Errorf("Open of %d bytes, bound to %d: %.80x, error %d; want %.80x", len(box), len(p.other), text, e, p.text)
	}
}

// refuses tells of an Open that answers anything but this error alone.
func refuses(t *testing.T, p parts, box []byte, want api.Errno, what ...any) {
	t.Helper()
	text, e := aead.Open(p.key, p.nonce, p.other, box)
	refused(t, text, e, want, what...)
}

// refused tells of an answer that is not this error alone.
func refused(t *testing.T, got []byte, e, want api.Errno, what ...any) {
	t.Helper()
	if e != want || len(got) != 0 {
		t.Errorf("%v: %.80x, error %d, want nothing and %d", what, got, e, want)
	}
}

// chance is n bytes out of chance, with room behind their end that is not nought.
func chance(r *rand.Rand, n int) []byte {
	b := make([]byte, n+50)
	for i := range b {
		b[i] = byte(r.Uint32())
	}
	for i := n; i < len(b); i++ {
		b[i] |= 1
	}
	return b[:n]
}

// some are parts out of chance, with so many other bytes and so long a text.
func some(r *rand.Rand, other, text int) parts {
	return parts{chance(r, 32), chance(r, 12), chance(r, other), chance(r, text)}
}

// list is one of the parts: 0 the key, 1 the nonce, 2 the other bytes, 3 the text.
func (p *parts) list(i int) *[]byte {
	return []*[]byte{&p.key, &p.nonce, &p.other, &p.text}[i]
}

// whole is a list with the room behind its end.
func whole(b []byte) []byte { return b[:cap(b)] }

// mixed is n bytes by a short rule.
func mixed(n int) []byte {
	b := make([]byte, n)
	for i := range b {
		b[i] = byte(i*7 + i>>8*13 + 1)
	}
	return b
}

// un is the bytes of these digits.
func un(s string) []byte {
	b, err := hex.DecodeString(s)
	if err != nil {
		panic(err)
	}
	return b
}

// P12.1, P12.2: the boxes of RFC 8439, 2.8.2 and A.5.
func TestKnown(t *testing.T) {
	for _, c := range []struct {
		p    parts
		want string
	}{
		{
			parts{
				un("808182838485868788898a8b8c8d8e8f909192939495969798999a9b9c9d9e9f"),
				un("070000004041424344454647"),
				un("50515253c0c1c2c3c4c5c6c7"),
				[]byte("Ladies and Gentlemen of the class of '99: If I could offer you only one tip for the future, sunscreen would be it."),
			},
			"d31a8d34648e60db7b86afbc53ef7ec2a4aded51296e08fea9e2b5a736ee62d63dbea45e8ca9671282fafb69da92728b1a71de0a9e060b2905d6a5b67ecd3b3692ddbd7f2d778b8c9803aee328091b58fab324e4fad675945585808b4831d7bc3ff4def08e4b7a9de576d26586cec64b6116" +
				"1ae10b594f09e26a7e902ecbd0600691",
		},
		{
			parts{
				un("1c9240a5eb55d38af333888604f6b5f0473917c1402b80099dca5cbc207075c0"),
				un("000000000102030405060708"),
				un("f33388860000000000004e91"),
				[]byte("Internet-Drafts are draft documents valid for a maximum of six months and may be updated, replaced, or obsoleted by other documents at any time. It is inappropriate to use Internet-Drafts as reference material or to cite them other than as /“work in progress./”"),
			},
			"64a0861575861af460f062c79be643bd5e805cfd345cf389f108670ac76c8cb24c6cfc18755d43eea09ee94e382d26b0bdb7b73c321b0100d4f03b7f355894cf332f830e710b97ce98c8a84abd0b948114ad176e008d33bd60f982b1ff37c8559797a06ef4f0ef61c186324e2b3506383606907b6a7c02b0f9f6157b53c867e4b9166c767b804d46a59b5216cde7a4e99040c5a40433225ee282a1b0a06c523eaf4534d7f83fa1155b0047718cbc546a0d072b04b3564eea1b422273f548271a0bb2316053fa76991955ebd63159434ecebb4e466dae5a1073a6727627097a1049e617d91d361094fa68f0ff77987130305beaba2eda04df997b714d6c6f2c29a6ad5cb4022b02709b" +
				"eead9d67890cbb22392336fea1851f38",
		},
	} {
		if got := hex.EncodeToString(seals(t, c.p)); got != c.want {
			t.Errorf("Seal of %.30q: %s, want %s", c.p.text, got, c.want)
		}
		opens(t, c.p, un(c.want))
	}
}

// P12.1: the boxes that OpenSSL makes, of each by the SHA-256; the last ones have lengths of four bytes.
func TestElsewhere(t *testing.T) {
	key, nonce := un("808182838485868788898a8b8c8d8e8f909192939495969798999a9b9c9d9e9f"), un("070000004041424344454647")
	full, none := bytes.Repeat([]byte{255}, 32), make([]byte, 32)
	for _, c := range []struct {
		key, nonce  []byte
		other, text int
		want        string
	}{
		{key, nonce, 0, 0, "4beb58a946c2fe18a4d07e10728ccc14d9773224407fc019b045e36cb236af8d"},
		{key, nonce, 1, 0, "816f8a575e7b1a81eb1af6f199309b516903719d081260cd868764d1633b720d"},
		{key, nonce, 0, 1, "75210ac523b34c3c024130fb41b27f46c05b44dcc0cd5bbda37ef2d1f0fc8cc7"},
		{key, nonce, 15, 15, "e4795e1a7b31f8a50781b30e8b5c551614b93933a82f8c35027d2b0e35e82ca2"},
		{key, nonce, 16, 16, "1e47215a053e9b3edd7d269d77e356c64e09341ddf2f731f69abed194414be5f"},
		{key, nonce, 17, 17, "cac3a0b0cd0613246307103b10775f7744742722d88edfc6490ba00d7e154f4a"},
		{key, nonce, 16, 31, "100ef8ee07fed97d8a262f46839bc370c7140ee1c1ac18a0bc4004ba3e5b4292"},
		{key, nonce, 31, 16, "0f86131c43cbdeb27901c7ed695576f7fbac37696190a55890d73bec1a08acb2"},
		{key, nonce, 255, 256, "47b02f69dc7ba95eaab87c7e33d9200e406f5015d94401cf8028ddc12986cf3a"},
		{key, nonce, 256, 255, "68b2500d2ed782cf5065d8c48cec72926ed86f79ed2d514814f518c885da1920"},
		{key, nonce, 65536, 65537, "5f67ece58951e5e584e6026ce299fd0185c85b0df9eabf5e03335ce9d0764b83"},
		{key, nonce, 65537, 65536, "9ea949c523e2cbebeca58b9ae7a3e57e6e7ebaea7e88343452199c137e3e35a8"},
		{full, full[:12], 0, 0, "1678e9daa4fdfca87b67ab7b576edaae9b8a4bccf8eca67a6ca15ddf15e18325"},
		{full, full[:12], 12, 114, "da8acfc3ce5f51b6898944e90769890e479c4a3a3d5aa8925c04a900e615d131"},
		{full, full[:12], 3, 100003, "fb6abdf9fe5108be33e5aeca3417fb5a3cb0af2fcd5d3798996e0a28b9d567a6"},
		{none, none[:12], 0, 0, "4a02f53357406cc7c8e06c18ba63ec282ba4bbe24a5e7e3028f110cea04d3b8e"},
		{none, none[:12], 32, 33, "0f3f3713e951efadded2670c51bc8b0b65372a3f6df6dba208dfaa91bc6465d4"},
		{none, none[:12], 100003, 3, "590d8b895839948f8cc2abc2efe575db4ee9e3513578ce33c2a903b7e1ffa171"},
		{key, nonce, 5, 1<<24 + 77, "ebc3fd82b0b7ec2997e75ec7fa9ee4094b2b5c46b391f9df6a53453f379b7b87"},
		{key, nonce, 1<<24 + 77, 5, "4fafb054b081dd6446d9876fd647db211a684dadb60208367a670837afe310f3"},
	} {
		p := parts{c.key, c.nonce, mixed(c.other), mixed(c.text)}
		box, e := aead.Seal(p.key, p.nonce, p.other, p.text)
		digest := sha256.Sum256(box)
		if got := hex.EncodeToString(digest[:]); e != api.OK || got != c.want {
			t.Errorf("Seal by %x, %x of %d bytes, bound to %d: %s, error %d, want %s", c.key, c.nonce, c.text, c.other, got, e, c.want)
		}
		opens(t, p, box)
	}
}

// P12.1, P12.3: all lengths of some blocks one with the other, and longer ones, of bytes out of chance.
func TestLengths(t *testing.T) {
	r := rand.New(rand.NewPCG(12, 1))
	for other := range 50 {
		for text := range 82 {
			seals(t, some(r, other, text))
		}
	}
	for n := range 300 {
		seals(t, some(r, r.IntN(300), n))
		seals(t, some(r, n, r.IntN(5000)))
	}
}

// P12.1, P12.2: keys and nonces of all other lengths, ahead of what is wrong with the box.
func TestWrong(t *testing.T) {
	r := rand.New(rand.NewPCG(12, 2))
	b := chance(r, 300)
	good := parts{b[:32], b[:12], b[:20], b[:40]}
	box := seals(t, good)
	for n := range len(b) + 1 {
		for _, c := range [][2][]byte{{b[:n], b[:12]}, {b[:32], b[:n]}, {b[:n], b[:n]}, {b[:n], nil}, {nil, b[:n]}, {b[:12], b[:n]}, {b[:n], b[:32]}} {
			if len(c[0]) == 32 && len(c[1]) == 12 {
				continue
			}
			for _, text := range [][]byte{nil, b[:1], b[:40]} {
				got, e := aead.Seal(c[0], c[1], good.other, text)
				refused(t, got, e, api.ErrArg, "Seal by", len(c[0]), len(c[1]), "of", len(text))
			}
			p := parts{c[0], c[1], good.other, nil}
			for _, x := range [][]byte{nil, b[:1], box[:15], b[:16], b[:40], box} { // short ones, spoilt ones, a right one
				refuses(t, p, x, api.ErrArg, "Open by", len(c[0]), len(c[1]), "of", len(x))
			}
		}
	}
}

// P12.2: fewer than 16 bytes are short, whatever they are; 16 are not.
func TestShort(t *testing.T) {
	r := rand.New(rand.NewPCG(12, 3))
	for _, other := range []int{0, 1, 16, 33} {
		for _, text := range []int{0, 1, 15, 16, 40} {
			p := some(r, other, text)
			box := seals(t, p)
			tag := box[text:]
			for n := range 16 {
				for _, x := range [][]byte{box[:n], tag[:n], tag[16-n:], make([]byte, n)} {
					refuses(t, p, x, api.ErrShort, n, "bytes, of a text of", text)
				}
			}
			refuses(t, p, nil, api.ErrShort, "nil")
			refuses(t, p, make([]byte, 16), api.ErrSeal, "16 noughts")
			if text > 0 {
				refuses(t, p, box[:16], api.ErrSeal, "the first 16 of", len(box))
				refuses(t, p, tag, api.ErrSeal, "the tag alone")
			}
		}
	}
}

// P12.2: each bit of the box, and of what it is made by, counts.
func TestSpoilt(t *testing.T) {
	r := rand.New(rand.NewPCG(12, 4))
	for _, c := range [][2]int{{0, 0}, {0, 1}, {1, 0}, {12, 17}, {16, 16}, {33, 70}} {
		p := some(r, c[0], c[1])
		box := seals(t, p)
		for bit := range 8 * len(box) {
			box[bit/8] ^= 1 << (bit % 8)
			refuses(t, p, box, api.ErrSeal, c, "bit of the box:", bit)
			box[bit/8] ^= 1 << (bit % 8)
		}
		for i := range 3 {
			b := *p.list(i)
			for bit := range 8 * len(b) {
				b[bit/8] ^= 1 << (bit % 8)
				refuses(t, p, box, api.ErrSeal, c, "list", i, "bit", bit)
				b[bit/8] ^= 1 << (bit % 8)
			}
		}
		opens(t, p, box)
	}
}

// P12.2: no two changes of a tag make up for one another.
func TestTwoChanges(t *testing.T) {
	r := rand.New(rand.NewPCG(12, 5))
	p := some(r, 5, 9)
	box := seals(t, p)
	for i := range 16 {
		for k := range i {
			for _, by := range []byte{1, 128, 255, byte(1 + r.IntN(255))} {
				other := bytes.Clone(box)
				other[9+i] ^= by
				other[9+k] ^= by
				refuses(t, p, other, api.ErrSeal, "bytes", k, i, "of the tag, by", by)
				other = bytes.Clone(box)
				other[9+i] += by
				other[9+k] -= by
				refuses(t, p, other, api.ErrSeal, "bytes", k, i, "of the tag, plus and minus", by)
			}
		}
	}
}

// P12.2: a box that was cut, at either end, or to which something was added.
func TestCutOff(t *testing.T) {
	r := rand.New(rand.NewPCG(12, 6))
	for _, c := range [][2]int{{0, 0}, {0, 40}, {20, 16}, {16, 70}} {
		p := some(r, c[0], c[1])
		box := seals(t, p)
		for n := 1; n <= len(box)-16; n++ {
			refuses(t, p, box[n:], api.ErrSeal, c, "without the first", n)
			refuses(t, p, box[:len(box)-n], api.ErrSeal, c, "without the last", n)
			refuses(t, p, slices.Concat(box[:n-1], box[n:]), api.ErrSeal, c, "without byte", n-1)
		}
		for n := range 34 {
			more := make([]byte, n+1)
			refuses(t, p, slices.Concat(box, more), api.ErrSeal, c, "noughts behind it:", n+1)
			refuses(t, p, slices.Concat(more, box), api.ErrSeal, c, "noughts ahead of it:", n+1)
			refuses(t, p, slices.Concat(box[:c[1]], more, box[c[1]:]), api.ErrSeal, c, "noughts ahead of the tag:", n+1)
			p.other = slices.Concat(p.other, more)
			refuses(t, p, box, api.ErrSeal, c, "noughts behind the other bytes:", n+1)
			p.other = p.other[:c[0]]
		}
		refuses(t, p, slices.Concat(box, box), api.ErrSeal, c, "twice")
	}
}

// P12.2: what is bound, and c, can't be taken one for the other.
func TestMoved(t *testing.T) {
	r := rand.New(rand.NewPCG(12, 7))
	for _, c := range [][2]int{{0, 32}, {16, 16}, {32, 48}, {5, 21}, {48, 0}} {
		p := some(r, c[0], c[1])
		box := seals(t, p)
		all := slices.Concat(p.other, box[:c[1]])
		for n := range len(all) + 1 {
			if n != c[0] {
				p.other = all[:n]
				refuses(t, p, slices.Concat(all[n:], box[c[1]:]), api.ErrSeal, c, "with so many other bytes:", n)
			}
		}
		p.other = box[:c[1]]
		if c[0] != c[1] {
			refuses(t, p, slices.Concat(all[:c[0]], box[c[1]:]), api.ErrSeal, c, "c and the other bytes in one another's place")
		}
	}
}

// P12.2: tags that are made otherwise than the document says are those of no text.
func TestForged(t *testing.T) {
	r := rand.New(rand.NewPCG(12, 8))
	for _, c := range [][2]int{{1, 5}, {5, 9}, {12, 20}, {16, 33}, {33, 16}, {40, 100}} {
		p := some(r, c[0], c[1])
		box := seals(t, p)
		sealed := box[:c[1]]
		other, filled := upTo16(p.other), upTo16(sealed)
		high := func(b []byte) []byte { return binary.BigEndian.AppendUint64(nil, uint64(len(b))) }
		turned := bytes.Clone(box[c[1]:])
		slices.Reverse(turned)
		for i, tag := range [][]byte{
			tagged(p.key, p.nonce, 1, other, filled, count(p.other), count(sealed)),
			tagged(p.key, p.nonce, 0, p.other, sealed, count(p.other), count(sealed)),
			tagged(p.key, p.nonce, 0, other, filled),
			tagged(p.key, p.nonce, 0, other, filled, count(p.other)),
			tagged(p.key, p.nonce, 0, other, filled, count(sealed), count(p.other)),
			tagged(p.key, p.nonce, 0, other, filled, count(other), count(filled)),
			tagged(p.key, p.nonce, 0, other, filled, high(p.other), high(sealed)),
			tagged(p.key, p.nonce, 0, filled, other, count(p.other), count(sealed)),
			tagged(p.key, p.nonce, 0, count(p.other), count(sealed), other, filled),
			tagged(p.key, p.nonce, 0, other, upTo16(p.text), count(p.other), count(sealed)),
			tagged(p.key, p.nonce, 0, filled, count(p.other), count(sealed)),
			tagged(p.key, p.nonce, 0, sealed),
			turned,
			make([]byte, 16),
			bytes.Repeat([]byte{255}, 16),
		} {
			refuses(t, p, slices.Concat(sealed, tag), api.ErrSeal, c, "forged tag", i)
		}
		refuses(t, p, slices.Concat(box[c[1]:], sealed), api.ErrSeal, c, "the tag ahead of c")
	}
}

// P12.2, P12.4: any c with the tag that it must have is a box: it is opened, and what is opened is, sealed again, that box.
func TestAnyBox(t *testing.T) {
	r := rand.New(rand.NewPCG(12, 9))
	for n := range 300 {
		p, c := some(r, r.IntN(60), 0), chance(r, n)
		if n%3 == 0 {
			c = make([]byte, n)
		}
		box := boxed(p.key, p.nonce, p.other, c)
		p.text = hidden(p.key, p.nonce, c)
		opens(t, p, box)
		text, _ := aead.Open(p.key, p.nonce, p.other, box)
		if again, e := aead.Seal(p.key, p.nonce, p.other, text); e != api.OK || !bytes.Equal(again, box) {
			t.Errorf("%d bytes, sealed again: %x, error %d, want %x", n, again, e, box)
		}
	}
}

// P12.3, P12.4: all texts of one byte have boxes of their own, and each of these one text; no other tag would do.
func TestOneText(t *testing.T) {
	r := rand.New(rand.NewPCG(12, 10))
	p := some(r, 7, 1)
	seen := map[string]int{}
	for x := range 256 {
		p.text[0] = byte(x)
		box := seals(t, p)
		if seen[string(box)]++; seen[string(box)] > 1 {
			t.Errorf("a box of two texts: %x", box)
		}
		for y := range 256 {
			if other := append([]byte{byte(y)}, box[1:]...); byte(y) != box[0] {
				refuses(t, p, other, api.ErrSeal, "the tag of", x, "behind another byte", y)
			}
		}
	}
}

// What a call answers does not hang on those ahead of it; and boxes by unlike nonces are unlike, of the same text.
func TestAgain(t *testing.T) {
	r := rand.New(rand.NewPCG(12, 11))
	p := some(r, 20, 100)
	box := seals(t, p)
	spoilt := bytes.Clone(box)
	spoilt[0] ^= 1
	seen := map[string]int{string(box): 1}
	for range 50 {
		refuses(t, p, spoilt, api.ErrSeal, "spoilt")
		opens(t, p, box)
		if !bytes.Equal(seals(t, p), box) {
			t.Error("sealed again it is another box")
		}
		q := p
		q.nonce = chance(r, 12)
		seen[string(seals(t, q))]++
	}
	if len(seen) != 51 {
		t.Error("unlike boxes:", len(seen))
	}
}

// Nil, empty, and cut off a longer list: all are none.
func TestNone(t *testing.T) {
	r := rand.New(rand.NewPCG(12, 12))
	p := some(r, 0, 0)
	want := expected(p)
	for _, other := range [][]byte{nil, {}, chance(r, 5)[:0]} {
		for _, text := range [][]byte{nil, {}, chance(r, 5)[:0]} {
			p.other, p.text = other, text
			if box := seals(t, p); !bytes.Equal(box, want) {
				t.Errorf("of none: %x, want %x", box, want)
			}
		}
	}
}

// flip changes each byte of a list, and of the room behind it.
func flip(b []byte) {
	for i := range whole(b) {
		whole(b)[i] ^= 255
	}
}

// What is handed in is not changed, and an answer is new memory, spare room too.
func TestMemory(t *testing.T) {
	r := rand.New(rand.NewPCG(12, 13))
	for _, n := range []int{0, 1, 15, 16, 17, 64, 200} {
		p := some(r, (n*7+3)%40, n)
		sealed := append(chance(r, 0), expected(p)...) // with room behind it
		lists := [][]byte{p.key, p.nonce, p.other, p.text, sealed}
		var was [][]byte
		for _, b := range lists {
			was = append(was, bytes.Clone(whole(b)))
		}
		box, _ := aead.Seal(p.key, p.nonce, p.other, p.text)
		text, _ := aead.Open(p.key, p.nonce, p.other, sealed)
		wantBox, wantText := bytes.Clone(box), bytes.Clone(text)
		again, _ := aead.Seal(p.key, p.nonce, p.other, p.text)
		other, _ := aead.Open(p.key, p.nonce, p.other, sealed)
		flip(again)
		flip(other)
		sealed[len(sealed)-1] ^= 1
		refuses(t, p, sealed, api.ErrSeal, "spoilt")
		sealed[len(sealed)-1] ^= 1
		for i, b := range lists {
			if !bytes.Equal(whole(b), was[i]) {
				t.Errorf("%d bytes: list %d was changed", n, i)
			}
			flip(b)
		}
		if !bytes.Equal(box, wantBox) || !bytes.Equal(text, wantText) {
			t.Errorf("%d bytes: an answer was changed from outside", n)
		}
	}
}

// All lists may lie in one; what stands behind any of them is not read.
func TestOneList(t *testing.T) {
	r := rand.New(rand.NewPCG(12, 14))
	b := chance(r, 300)
	p := parts{b[10:42], b[30:42], b[5:95], b[:120]}
	want := expected(parts{bytes.Clone(p.key), bytes.Clone(p.nonce), bytes.Clone(p.other), bytes.Clone(p.text)})
	was := bytes.Clone(whole(b))
	if got := seals(t, p); !bytes.Equal(got, want) || !bytes.Equal(whole(b), was) {
		t.Errorf("of one list: %x, want %x, or it was changed", got, want)
	}
	copy(b[120:], want)
	p.text = bytes.Clone(p.text)
	opens(t, p, b[120:256])
	flip(b[256:])
	if opens(t, p, b[120:256]); !bytes.Equal(b[120:256], want) {
		t.Error("the box was changed")
	}
}
