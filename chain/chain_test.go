package chain_test

import (
	"bytes"
	"crypto/sha256"
	"encoding/binary"
	"encoding/hex"
	"fmt"
	"math"
	"math/rand/v2"
	"reflect"
	"slices"
	"strings"
	"testing"

	"sealwax/api"
	"sealwax/chain"
	"sealwax/suite"
	"sealwax/wire"
)

const (
	authors  = 5       // by the document's words
	topSeq   = 1 << 20 // the greatest Seq
	topEpoch = 1 << 16 // the greatest Epoch
)

// ones is n bytes c.
func ones(n int, c byte) []byte { return bytes.Repeat([]byte{c}, n) }

// body is 32 bytes that end with c.
func body(c byte) []byte { return append(ones(31, 0), c) }

// unhex is the bytes whose digits they are, blanks aside.
func unhex(s string) []byte {
	b, err := hex.DecodeString(strings.ReplaceAll(s, " ", ""))
	if err != nil {
		panic(err)
	}
	return b
}

// spoil writes over lists, and over the room behind them.
func spoil(l ...[]byte) {
	for _, b := range l {
		b = b[:cap(b)]
		for i := range b {
			b[i] ^= 0xff
		}
	}
}

// roomy is a copy of some bytes with room behind them, and that room.
func roomy(b []byte) ([]byte, []byte) {
	l := append(append(make([]byte, 0, len(b)+100), b...), ones(100, 0xa5)...)
	return l[:len(b)], l[len(b):]
}

// uvarint puts a number as layer 13 does, by the library.
func uvarint(b []byte, n int) []byte { return binary.AppendUvarint(b, uint64(n)) }

// form is what is hashed of a link.
func form(l api.Link) []byte {
	out := uvarint(uvarint(uvarint(nil, l.Author), l.Seq), l.Epoch)
	out = append(uvarint(out, len(l.Prev)), l.Prev...)
	return append(uvarint(out, len(l.Body)), l.Body...)
}

// may tells whether a link may be, by the document's words.
func may(l api.Link) bool {
	if l.Author < 0 || l.Author > 4 || l.Seq < 1 || l.Seq > topSeq || l.Epoch < 1 || l.Epoch > topEpoch || len(l.Body) != 32 {
		return false
	}
	return len(l.Prev) == 32 || l.Seq == 1 && len(l.Prev) == 0
}

// oracle is what a suite must answer: of the real one the library's hash, of the ideal one a name by the order of what was asked.
type oracle struct {
	ideal bool
	asked [][]byte
}

func (o *oracle) hash(l api.Link) []byte {
	f := form(l)
	if !o.ideal {
		sum := sha256.Sum256(f)
		return sum[:]
	}
	n := slices.IndexFunc(o.asked, func(x []byte) bool { return bytes.Equal(x, f) })
	if n < 0 {
		n, o.asked = len(o.asked), append(o.asked, f)
	}
	return append(binary.LittleEndian.AppendUint64([]byte{'h'}, uint64(n+1)), make([]byte, 23)...)
}

// known is a link with its digest.
type known struct {
	api.Link
	digest []byte
}

// model is a book by the document's words.
type model [authors][]known

func (m *model) clone() *model {
	out := *m
	for a := range out {
		out[a] = slices.Clone(out[a])
	}
	return &out
}

func (m *model) head(author int) api.Head {
	l := m[author]
	if len(l) == 0 {
		return api.Head{Author: author}
	}
	return api.Head{Author: author, Seq: len(l), Digest: l[len(l)-1].digest}
}

func (m *model) vector() []api.Head {
	var out []api.Head
	for a := range authors {
		if len(m[a]) > 0 {
			out = append(out, m.head(a))
		}
	}
	return out
}

func (m *model) check(o *oracle, l api.Link) api.Errno {
	if !may(l) {
		return api.ErrArg
	}
	mine := m[l.Author]
	if l.Seq <= len(mine) {
		if bytes.Equal(o.hash(l), mine[l.Seq-1].digest) {
			return api.ErrOld
		}
		return api.ErrFork
	}
	if l.Seq > len(mine)+1 {
		return api.ErrSeq
	}
	if !bytes.Equal(l.Prev, m.head(l.Author).Digest) {
		return api.ErrPrev
	}
	if len(mine) > 0 && l.Epoch < mine[len(mine)-1].Epoch {
		return api.ErrEpoch
	}
	return api.OK
}

func (m *model) take(o *oracle, l api.Link) api.Errno {
	e := m.check(o, l)
	if e == api.OK {
		l.Prev, l.Body = bytes.Clone(l.Prev), bytes.Clone(l.Body)
		m[l.Author] = append(m[l.Author], known{l, o.hash(l)})
	}
	return e
}

func (m *model) compare(v []api.Head) (api.Relation, []api.Fork, api.Errno) {
	var how api.Relation
	var forks []api.Fork
	told := [authors]int{}
	before := -1
	for _, h := range v {
		if h.Author <= before || h.Author > 4 || h.Seq < 1 || h.Seq > topSeq || len(h.Digest) != 32 {
			return api.Relation{}, nil, api.ErrArg
		}
		before = h.Author
		told[h.Author] = h.Seq
		if h.Seq > len(m[h.Author]) {
			how.Ahead = true
		} else if !bytes.Equal(m[h.Author][h.Seq-1].digest, h.Digest) {
			forks = append(forks, api.Fork{Author: h.Author, Seq: h.Seq})
		}
	}
	for a := range authors {
		if len(m[a]) > told[a] {
			how.Behind = true
		}
	}
	return how, forks, api.OK
}

func (m *model) put() []byte {
	var out []byte
	for a := range authors {
		out = uvarint(out, len(m[a]))
		for _, l := range m[a] {
			out = uvarint(append(append(out, 32), l.Body...), l.Epoch)
		}
	}
	return out
}

// number is the number at the beginning of some bytes, and what is behind it.
func number(b []byte, least, most int) (int, []byte, api.Errno) {
	end := slices.IndexFunc(b[:min(6, len(b))], func(x byte) bool { return x < 128 })
	switch {
	case end < 0 && len(b) < 6:
		return 0, b, api.ErrShort
	case end < 0 || end > 0 && b[end] == 0:
		return 0, b, api.ErrForm
	}
	x, _ := binary.Uvarint(b)
	if n := int(x); n >= least && n <= most {
		return n, b[end+1:], api.OK
	}
	return 0, b, api.ErrRange
}

// get is the book at the beginning of some bytes, and how many bytes are left, behind it or where the fault was met.
func get(o *oracle, b []byte) (*model, int, api.Errno) {
	m := &model{}
	for a := range authors {
		n, rest, e := number(b, 0, topSeq)
		if e != api.OK {
			return nil, len(b), e
		}
		b = rest
		for seq := 1; seq <= n; seq++ {
			size, rest, e := number(b, 0, 1<<40)
			switch {
			case e != api.OK:
				return nil, len(b), e
			case size > 32:
				return nil, len(b), api.ErrLong
			case size > len(rest):
				return nil, len(b), api.ErrShort
			}
			l := api.Link{Author: a, Seq: seq, Body: bytes.Clone(rest[:size])}
			b = rest[size:]
			if size != 32 {
				return nil, len(b), api.ErrForm
			}
			if l.Epoch, b, e = number(b, 1, topEpoch); e != api.OK {
				return nil, len(b), e
			}
			if seq > 1 && l.Epoch < m[a][seq-2].Epoch {
				return nil, len(b), api.ErrForm
			}
			m[a] = append(m[a], known{l, nil})
		}
	}
	for a := range authors {
		for i := range m[a] {
			if i > 0 {
				m[a][i].Prev = m[a][i-1].digest
			}
			m[a][i].digest = o.hash(m[a][i].Link)
		}
	}
	return m, len(b), api.OK
}

func sameHead(a, b api.Head) bool {
	return a.Author == b.Author && a.Seq == b.Seq && bytes.Equal(a.Digest, b.Digest)
}

// same holds all that a book tells against its model.
func same(t *testing.T, b *chain.Book, m *model) {
	t.Helper()
	for a := range authors {
		if got := b.Head(a); !sameHead(got, m.head(a)) {
			t.Fatal("Head:", a, got, m.head(a))
		}
		for i, x := range m[a] {
			if d, epoch := b.At(a, i+1); !bytes.Equal(d, x.digest) || epoch != x.Epoch {
				t.Fatal("At:", a, i+1, d, epoch)
			}
		}
		for _, seq := range []int{math.MinInt, -1, 0, len(m[a]) + 1, len(m[a]) + 2, topSeq, math.MaxInt} {
			if d, epoch := b.At(a, seq); len(d) != 0 || epoch != 0 {
				t.Fatal("At what is not known:", a, seq, d, epoch)
			}
		}
	}
	if got := b.Vector(); !slices.EqualFunc(got, m.vector(), sameHead) {
		t.Fatal("Vector:", got, m.vector())
	}
	if got := b.Put(nil); !bytes.Equal(got, m.put()) {
		t.Fatal("Put:", got, m.put())
	}
}

// asked holds what the suite was asked for against what it should have been.
func asked(t *testing.T, s suite.Suite, o *oracle) {
	t.Helper()
	i, ideal := s.(*suite.Ideal)
	if !ideal {
		return
	}
	terms := i.Terms()
	if len(terms) != len(o.asked) {
		t.Fatal("the suite knows", len(terms), "terms, not", len(o.asked))
	}
	for k, x := range terms {
		if x.Kind != 'h' || len(x.Parts) != 1 || !bytes.Equal(x.Parts[0], o.asked[k]) {
			t.Fatal("term", k+1, x, o.asked[k])
		}
	}
}

// each calls a test with either suite, and what it must answer.
func each(t *testing.T, f func(t *testing.T, s suite.Suite, o *oracle)) {
	t.Run("real", func(t *testing.T) { f(t, suite.NewReal([]byte("a seed")), &oracle{}) })
	t.Run("ideal", func(t *testing.T) { f(t, suite.NewIdeal(), &oracle{ideal: true}) })
}

// written takes a link more of an author, which goes on from the head, into a book and its model; it answers the link.
func written(t *testing.T, s suite.Suite, o *oracle, b *chain.Book, m *model, author, epoch int, c byte) api.Link {
	t.Helper()
	h := m.head(author)
	l := api.Link{Author: author, Seq: h.Seq + 1, Epoch: epoch, Prev: h.Digest, Body: body(c)}
	if e, f := b.Take(s, l), m.take(o, l); e != api.OK || f != api.OK {
		t.Fatal("Take:", l, e, f)
	}
	return l
}

// The example of the chapter.
func TestExample(t *testing.T) {
	each(t, func(t *testing.T, s suite.Suite, o *oracle) {
		b, m := chain.New(), &model{}
		first := written(t, s, o, b, m, 1, 1, 1)
		other := api.Link{Author: 1, Seq: 1, Epoch: 1, Body: body(2)}
		third := api.Link{Author: 1, Seq: 3, Epoch: 1, Prev: body(3), Body: body(3)}
		for _, ask := range []func(suite.Suite, api.Link) api.Errno{b.Check, b.Take} {
			if e := ask(s, first); e != api.ErrOld {
				t.Error("again:", e)
			}
			if e := ask(s, other); e != api.ErrFork {
				t.Error("another one:", e)
			}
			if e := ask(s, third); e != api.ErrSeq {
				t.Error("the third one:", e)
			}
		}
		same(t, b, m)
	})
}

// P20.1: what may be, part by part at its edges; what may not has no digest, is ErrArg, and the suite is not asked.
func TestRight(t *testing.T) {
	s, b := suite.NewIdeal(), chain.New()
	right := 0
	sizes := []int{0, 1, 31, 32, 33, 64}
	for _, author := range []int{math.MinInt, -1, 0, 1, 4, 5, math.MaxInt} {
		for _, seq := range []int{math.MinInt, -1, 0, 1, 2, 3, topSeq - 1, topSeq, topSeq + 1, 1<<40 + 1, math.MaxInt} {
			for _, epoch := range []int{math.MinInt, -1, 0, 1, 2, topEpoch, topEpoch + 1, 1<<32 + 1, math.MaxInt} {
				for _, prev := range sizes {
					for _, size := range sizes {
						l := api.Link{Author: author, Seq: seq, Epoch: epoch, Prev: ones(prev, 7), Body: ones(size, 8)}
						if chain.Right(l) != may(l) {
							t.Fatal("Right:", l)
						}
						if may(l) {
							right++
							continue
						}
						if d := chain.Digest(s, l); len(d) != 0 || b.Check(s, l) != api.ErrArg || b.Take(s, l) != api.ErrArg || s.Len() != 0 {
							t.Fatal("what may not be:", l, d)
						}
					}
				}
			}
		}
	}
	if right != 3*3*(1*2+4*1) {
		t.Error("how many may be:", right)
	}
	if !chain.Right(api.Link{Seq: 1, Epoch: 1, Prev: nil, Body: body(0)}) || !chain.Right(api.Link{Seq: 1, Epoch: 1, Prev: []byte{}, Body: body(0)}) || chain.Right(api.Link{}) {
		t.Error("none, and the zero link")
	}
	same(t, b, &model{})
}

// P20.1: what is hashed, told in digits.
func TestDigest(t *testing.T) {
	seven, eight := strings.Repeat("07", 32), strings.Repeat("08", 32)
	r, i := suite.NewReal(nil), suite.NewIdeal()
	for k, c := range []struct {
		l    api.Link
		want string
	}{
		{api.Link{Author: 2, Seq: 1, Epoch: 3, Body: ones(32, 8)}, "02 01 03 00 20" + eight},
		{api.Link{Author: 2, Seq: 1, Epoch: 3, Prev: ones(32, 7), Body: ones(32, 8)}, "02 01 03 20" + seven + "20" + eight},
		{api.Link{Author: 0, Seq: 2, Epoch: 1, Prev: ones(32, 8), Body: ones(32, 7)}, "00 02 01 20" + eight + "20" + seven},
		{api.Link{Author: 4, Seq: 128, Epoch: 300, Prev: ones(32, 7), Body: ones(32, 8)}, "04 8001 ac02 20" + seven + "20" + eight},
		{api.Link{Author: 4, Seq: 1 << 20, Epoch: 1 << 16, Prev: ones(32, 7), Body: ones(32, 8)}, "04 808040 808004 20" + seven + "20" + eight},
	} {
		sum := sha256.Sum256(unhex(c.want))
		if d := chain.Digest(r, c.l); !bytes.Equal(d, sum[:]) {
			t.Error("real:", k, d)
		}
		d := chain.Digest(i, c.l)
		x := i.Terms()
		if len(x) != k+1 || x[k].Kind != 'h' || !bytes.Equal(x[k].Parts[0], unhex(c.want)) || !bytes.Equal(d, append([]byte{'h', byte(k + 1)}, make([]byte, 30)...)) {
			t.Error("ideal:", k, d, x)
		}
	}
}

// P20.1: each error, and of several that apply the first one; with one nothing has changed.
func TestErrors(t *testing.T) {
	each(t, func(t *testing.T, s suite.Suite, o *oracle) {
		b, m := chain.New(), &model{}
		one := written(t, s, o, b, m, 2, 3, 1)
		two := written(t, s, o, b, m, 2, 3, 2)
		three := written(t, s, o, b, m, 2, 5, 3)
		written(t, s, o, b, m, 0, 7, 4)
		mine, theirs := m.head(2).Digest, m.head(0).Digest
		with := func(l api.Link, change func(l *api.Link)) api.Link {
			change(&l)
			return l
		}
		four := api.Link{Author: 2, Seq: 4, Epoch: 5, Prev: mine, Body: body(5)}
		for k, c := range []struct {
			l api.Link
			e api.Errno
		}{
			{one, api.ErrOld}, {two, api.ErrOld}, {three, api.ErrOld},
			// Another link of a Seq that is known, whatever of it is another one.
			{with(one, func(l *api.Link) { l.Body = body(9) }), api.ErrFork},
			{with(one, func(l *api.Link) { l.Epoch = 4 }), api.ErrFork},
			{with(one, func(l *api.Link) { l.Prev = body(0) }), api.ErrFork},
			{with(two, func(l *api.Link) { l.Epoch = 1 }), api.ErrFork},
			{with(two, func(l *api.Link) { l.Prev = mine }), api.ErrFork},
			{with(three, func(l *api.Link) { l.Body = body(2) }), api.ErrFork},
			{with(three, func(l *api.Link) { l.Epoch = 4 }), api.ErrFork},
			// A link of another Seq, or of another author, by which the digest is another one, too.
			{with(three, func(l *api.Link) { l.Seq = 2 }), api.ErrFork},
			{with(one, func(l *api.Link) { l.Author = 0 }), api.ErrFork},
			{with(one, func(l *api.Link) { l.Author = 1 }), api.OK},
			{with(three, func(l *api.Link) { l.Seq = 4 }), api.ErrPrev},
			{with(four, func(l *api.Link) { l.Seq = 5 }), api.ErrSeq},
			{with(four, func(l *api.Link) { l.Seq = 1 << 20 }), api.ErrSeq},
			{with(four, func(l *api.Link) { l.Prev = theirs }), api.ErrPrev},
			{with(four, func(l *api.Link) { l.Prev = two.Prev }), api.ErrPrev},
			{with(four, func(l *api.Link) { l.Prev = append(mine[:31:31], mine[31]^1) }), api.ErrPrev},
			{with(four, func(l *api.Link) { l.Epoch = 4 }), api.ErrEpoch},
			{with(four, func(l *api.Link) { l.Epoch = 1 }), api.ErrEpoch},
			{four, api.OK},
			{with(four, func(l *api.Link) { l.Epoch = 6 }), api.OK},
			{with(four, func(l *api.Link) { l.Epoch = 1 << 16 }), api.OK},
			{api.Link{Author: 1, Seq: 1, Epoch: 1, Body: body(1)}, api.OK},
			{api.Link{Author: 1, Seq: 1, Epoch: 1, Prev: mine, Body: body(1)}, api.ErrPrev},
			{api.Link{Author: 1, Seq: 1, Epoch: 1, Prev: ones(32, 0), Body: body(1)}, api.ErrPrev},
			{api.Link{Author: 1, Seq: 2, Epoch: 1, Prev: mine, Body: body(1)}, api.ErrSeq},
			// Several: the first one.
			{with(four, func(l *api.Link) { l.Seq, l.Prev, l.Epoch = 5, theirs, 1 }), api.ErrSeq},
			{with(four, func(l *api.Link) { l.Prev, l.Epoch = theirs, 1 }), api.ErrPrev},
			{with(four, func(l *api.Link) { l.Seq, l.Prev, l.Epoch = 5, theirs, 0 }), api.ErrArg},
			{with(four, func(l *api.Link) { l.Prev = nil }), api.ErrArg},
			{with(three, func(l *api.Link) { l.Prev = nil }), api.ErrArg},
			{with(one, func(l *api.Link) { l.Prev = body(0)[:31] }), api.ErrArg},
			{with(four, func(l *api.Link) { l.Seq = 0 }), api.ErrArg},
			{with(four, func(l *api.Link) { l.Seq = 1<<20 + 1 }), api.ErrArg},
			{with(four, func(l *api.Link) { l.Author = 5 }), api.ErrArg},
			{with(four, func(l *api.Link) { l.Body = l.Body[1:] }), api.ErrArg},
		} {
			if e := b.Check(s, c.l); e != c.e || m.check(o, c.l) != c.e {
				t.Error("Check:", k, e, c.e)
			}
			same(t, b, m)
			d := b.Clone()
			if e := d.Take(s, c.l); e != c.e {
				t.Error("Take:", k, e, c.e)
			}
			if n := m.clone(); n.take(o, c.l) == c.e {
				same(t, d, n)
			}
			asked(t, s, o)
		}
		same(t, b, m)
	})
}

// P20.1: Check asks for the digest where a link of that Seq is known, Take where it is taken, too, and neither where not.
func TestAsked(t *testing.T) {
	i, b := suite.NewIdeal(), chain.New()
	l := api.Link{Author: 3, Seq: 1, Epoch: 2, Body: body(1)}
	asks := func(what string, n int, e, want api.Errno) {
		t.Helper()
		if e != want || i.Len() != n {
			t.Error(what, e, i.Len())
		}
	}
	asks("Check of what would be taken:", 0, b.Check(i, l), api.OK)
	// Nothing is asked, so that there need be nothing to ask.
	asks("Check without a suite:", 0, b.Check(nil, l), api.OK)
	asks("Take of a gap:", 0, b.Take(nil, api.Link{Author: 3, Seq: 2, Epoch: 2, Prev: body(1), Body: body(1)}), api.ErrSeq)
	asks("Take of another Prev:", 0, b.Take(nil, api.Link{Author: 3, Seq: 1, Epoch: 2, Prev: body(1), Body: body(1)}), api.ErrPrev)
	asks("Take:", 1, b.Take(i, l), api.OK)
	asks("Check of the same:", 1, b.Check(i, l), api.ErrOld)
	next := api.Link{Author: 3, Seq: 2, Epoch: 2, Prev: b.Head(3).Digest, Body: body(2)}
	asks("Check of the next:", 1, b.Check(i, next), api.OK)
	next.Epoch = 1
	asks("Take of an epoch that is over:", 1, b.Take(i, next), api.ErrEpoch)
	next.Epoch = 3
	asks("Take of the next:", 2, b.Take(i, next), api.OK)
	l.Body = body(9)
	asks("Check of another one:", 3, b.Check(i, l), api.ErrFork)
	l.Body = body(10)
	asks("Take of another one:", 4, b.Take(i, l), api.ErrFork)
	v := b.Vector()
	b.Compare(v)
	b.At(3, 1)
	b.Put(nil)
	b.Clone()
	if i.Len() != 4 {
		t.Error("others ask:", i.Len())
	}
}

// P20.2: heads, links, and the vector of a book that grows; of numbers that are no author's nothing.
func TestHeads(t *testing.T) {
	each(t, func(t *testing.T, s suite.Suite, o *oracle) {
		b, m := chain.New(), &model{}
		same(t, b, m)
		for k, author := range []int{3, 3, 0, 4, 3, 0, 4, 4, 1, 3, 2, 2} {
			written(t, s, o, b, m, author, 1+k*k, byte(k))
			same(t, b, m)
		}
		if d, epoch := b.At(3, 2); !bytes.Equal(d, m[3][1].digest) || epoch != 2 {
			t.Error("At:", d, epoch)
		}
		for _, author := range []int{math.MinInt, -1, 5, 6, math.MaxInt} {
			if h := b.Head(author); !reflect.DeepEqual(h, api.Head{}) {
				t.Error("Head:", author, h)
			}
			if d, epoch := b.At(author, 1); len(d) != 0 || epoch != 0 {
				t.Error("At:", author, d, epoch)
			}
		}
	})
}

// P20.2: how a vector stands, told by hand.
func TestCompare(t *testing.T) {
	each(t, func(t *testing.T, s suite.Suite, o *oracle) {
		b, m := chain.New(), &model{}
		for _, author := range []int{0, 2, 2, 2, 4, 4} {
			written(t, s, o, b, m, author, 1, 1)
		}
		h := func(author, seq int) api.Head {
			return api.Head{Author: author, Seq: seq, Digest: m[author][seq-1].digest}
		}
		x := func(author, seq int) api.Head { return api.Head{Author: author, Seq: seq, Digest: ones(32, 9)} }
		list := func(l ...api.Head) []api.Head { return l }
		type how = api.Relation
		for k, c := range []struct {
			v     []api.Head
			how   api.Relation
			forks []api.Fork
		}{
			{nil, how{Behind: true}, nil},
			{list(), how{Behind: true}, nil},
			{list(h(0, 1), h(2, 3), h(4, 2)), how{}, nil},
			{list(h(0, 1), h(2, 2), h(4, 2)), how{Behind: true}, nil},
			{list(h(0, 1), h(2, 3)), how{Behind: true}, nil},
			{list(h(2, 3), h(4, 2)), how{Behind: true}, nil},
			{list(h(0, 1), x(1, 1), h(2, 3), h(4, 2)), how{Ahead: true}, nil},
			{list(h(0, 1), h(2, 3), x(4, 3)), how{Ahead: true}, nil},
			{list(h(0, 1), h(2, 3), x(4, 1<<20)), how{Ahead: true}, nil},
			{list(x(3, 1)), how{Behind: true, Ahead: true}, nil},
			{list(x(0, 2), h(2, 1), h(4, 2)), how{Behind: true, Ahead: true}, nil},
			{list(x(0, 1), h(2, 3), h(4, 2)), how{}, []api.Fork{{Author: 0, Seq: 1}}},
			{list(h(0, 1), x(2, 2), h(4, 2)), how{Behind: true}, []api.Fork{{Author: 2, Seq: 2}}},
			{list(x(0, 1), x(1, 1), x(2, 1), x(3, 5), x(4, 2)), how{Behind: true, Ahead: true}, []api.Fork{{Author: 0, Seq: 1}, {Author: 2, Seq: 1}, {Author: 4, Seq: 2}}},
			{list(x(2, 3), x(4, 2)), how{Behind: true}, []api.Fork{{Author: 2, Seq: 3}, {Author: 4, Seq: 2}}},
			// The digest of another place of the chain, or of another author's.
			{list(h(0, 1), api.Head{Author: 2, Seq: 3, Digest: h(2, 2).Digest}, h(4, 2)), how{}, []api.Fork{{Author: 2, Seq: 3}}},
			{list(h(0, 1), api.Head{Author: 2, Seq: 1, Digest: h(0, 1).Digest}, h(4, 2)), how{Behind: true}, []api.Fork{{Author: 2, Seq: 1}}},
		} {
			if got, forks, e := b.Compare(c.v); got != c.how || !slices.Equal(forks, c.forks) || e != api.OK {
				t.Error(k, got, forks, e)
			}
			if got, forks, e := m.compare(c.v); got != c.how || !slices.Equal(forks, c.forks) || e != api.OK {
				t.Error("the model:", k, got, forks, e)
			}
			same(t, b, m)
		}
		if got, forks, e := chain.New().Compare(nil); got != (how{}) || len(forks) != 0 || e != api.OK {
			t.Error("nothing with nothing:", got, forks, e)
		}
		if got, forks, e := chain.New().Compare(m.vector()); got != (how{Ahead: true}) || len(forks) != 0 || e != api.OK {
			t.Error("by who has nothing:", got, forks, e)
		}
		asked(t, s, o)
	})
}

// P20.2: what is no vector, wherever the fault is, ahead of any fork.
func TestNoVector(t *testing.T) {
	s, b := suite.NewIdeal(), chain.New()
	b.Take(s, api.Link{Author: 0, Seq: 1, Epoch: 1, Body: body(1)})
	good := func(author int) api.Head { return api.Head{Author: author, Seq: 1, Digest: ones(32, 9)} }
	for at := range authors {
		for k, bad := range []api.Head{
			{Author: -1, Seq: 1, Digest: body(1)}, {Author: math.MinInt, Seq: 1, Digest: body(1)},
			{Author: 5, Seq: 1, Digest: body(1)}, {Author: math.MaxInt, Seq: 1, Digest: body(1)},
			{Author: at, Seq: 0, Digest: body(1)}, {Author: at, Seq: -1, Digest: body(1)}, {Author: at, Seq: math.MinInt, Digest: body(1)},
			{Author: at, Seq: 1<<20 + 1, Digest: body(1)}, {Author: at, Seq: math.MaxInt, Digest: body(1)},
			{Author: at, Seq: 1}, {Author: at, Seq: 1, Digest: body(1)[1:]}, {Author: at, Seq: 1, Digest: ones(33, 1)},
		} {
			v := []api.Head{good(0), good(1), good(2), good(3), good(4)}
			v[at] = bad
			if how, forks, e := b.Compare(v); how != (api.Relation{}) || len(forks) != 0 || e != api.ErrArg {
				t.Error(at, k, how, forks, e)
			}
		}
	}
	for _, l := range [][]int{{0, 0}, {1, 0}, {0, 1, 1}, {0, 2, 1}, {4, 4}, {0, 1, 2, 3, 4, 4}, {0, 1, 2, 3, 4, 0}, {4, 3}} {
		var v []api.Head
		for _, author := range l {
			v = append(v, good(author))
		}
		if how, forks, e := b.Compare(v); how != (api.Relation{}) || len(forks) != 0 || e != api.ErrArg {
			t.Error(l, how, forks, e)
		}
	}
	for _, l := range [][]int{{0}, {4}, {0, 4}, {1, 2, 3}, {0, 1, 2, 3, 4}} {
		var v []api.Head
		for _, author := range l {
			v = append(v, good(author))
		}
		if _, _, e := b.Compare(v); e != api.OK {
			t.Error(l, e)
		}
	}
}

// P20.3: a book's bytes, told in digits.
func TestPut(t *testing.T) {
	each(t, func(t *testing.T, s suite.Suite, o *oracle) {
		b, m := chain.New(), &model{}
		if got := b.Put(nil); !bytes.Equal(got, unhex("00 00 00 00 00")) {
			t.Error("none:", got)
		}
		written(t, s, o, b, m, 3, 300, 2)
		written(t, s, o, b, m, 1, 1, 1)
		written(t, s, o, b, m, 3, 1<<16, 3)
		stem := strings.Repeat("00", 31)
		want := unhex("00 01 20" + stem + "01 01 00 02 20" + stem + "02 ac02 20" + stem + "03 808004 00")
		for _, p := range [][]byte{nil, {}, {0}, []byte("ahead of it"), ones(1000, 255)} {
			if got := b.Put(p); !bytes.Equal(got, slices.Concat(p, want)) {
				t.Error(p, got)
			}
		}
		for range 200 {
			written(t, s, o, b, m, 4, 1<<16, 4)
		}
		same(t, b, m)
		if got := b.Put(nil); !bytes.Equal(got[:len(want)-1], want[:len(want)-1]) || !bytes.Equal(got[len(want)-1:len(want)+1], unhex("c801")) {
			t.Error("200 links:", got)
		}
	})
}

// read reads a book, by Get and by the document's words, and holds what came of it against each other.
func read(t *testing.T, s suite.Suite, o *oracle, given []byte) (*chain.Book, *model) {
	t.Helper()
	r := wire.Read(given)
	b := chain.Get(s, r)
	m, left, e := get(o, given)
	if r.Err() != e || r.Left() != left || (b == nil) != (e != api.OK) {
		t.Fatalf("Get of %x: %d, %d left, %t, not %d, %d", given, r.Err(), r.Left(), b == nil, e, left)
	}
	asked(t, s, o)
	if b != nil {
		same(t, b, m)
	}
	return b, m
}

// P20.3: what is put is read as it was, whatever stands behind; a beginning of it is ErrShort.
func TestGet(t *testing.T) {
	each(t, func(t *testing.T, s suite.Suite, o *oracle) {
		b, m := chain.New(), &model{}
		for k, author := range []int{4, 0, 2, 2, 0, 4, 4, 1, 2} {
			written(t, s, o, b, m, author, 1+k*100, byte(k))
			all := b.Put(nil)
			for end := range all {
				if c, _ := read(t, s, o, all[:end]); c != nil {
					t.Fatal("cut:", end)
				}
				if _, _, e := get(o, all[:end]); e != api.ErrShort {
					t.Fatal("cut:", end, e)
				}
			}
			for _, more := range [][]byte{nil, {0}, ones(50, 255)} {
				c, n := read(t, s, o, append(bytes.Clone(all), more...))
				if c == nil {
					t.Fatal("what was put:", all)
				}
				same(t, c, m)
				same(t, b, n)
				// It goes on as the other one does.
				l := written(t, s, o, c, n, 2, 1000, 77)
				if e := b.Clone().Take(s, l); e != api.OK {
					t.Fatal("what is taken by one:", e)
				}
			}
		}
		// What the reader has behind a book may be another one.
		r := wire.Read(b.Put(chain.New().Put(b.Put(nil))))
		for _, want := range []*model{m, {}, m} {
			same(t, chain.Get(s, r), want)
		}
		if r.End() != api.OK {
			t.Error("End:", r.End())
		}
	})
}

// P20.3: each fault, where it is met, and ahead of what stands behind it.
func TestGetErrors(t *testing.T) {
	one := "20" + strings.Repeat("ab", 32)
	for k, c := range []struct {
		digits string
		e      api.Errno
		left   int
	}{
		{"", api.ErrShort, 0},
		{"00 00 00 00", api.ErrShort, 0},
		{"808040", api.ErrShort, 0},
		{"ffff3f", api.ErrShort, 0},
		{"818040", api.ErrRange, 3},
		{"00 00 00 00 818040 01", api.ErrRange, 4},
		{"ffffffffff1f", api.ErrRange, 6},
		{"ffffffffffff", api.ErrForm, 6},
		{"8000", api.ErrForm, 2},
		{"00 8000", api.ErrForm, 2},
		{"01 21" + strings.Repeat("ab", 33) + "01 00 00 00 00", api.ErrLong, 39},
		{"01 21", api.ErrLong, 1},
		{"01 ffffffffff1f", api.ErrLong, 6},
		{"01 a000", api.ErrForm, 2},
		{"01 20" + strings.Repeat("ab", 31), api.ErrShort, 32},
		{"01 1f" + strings.Repeat("ab", 30), api.ErrShort, 31},
		// As soon as the body has been read.
		{"01 1f" + strings.Repeat("ab", 31), api.ErrForm, 0},
		{"01 1f" + strings.Repeat("ab", 31) + "00", api.ErrForm, 1},
		{"01 1f" + strings.Repeat("ab", 31) + "01 00 00 00 00", api.ErrForm, 5},
		{"01 00", api.ErrForm, 0},
		{"01 00 01 00 00 00 00", api.ErrForm, 5},
		{"02" + one + "05 00 04", api.ErrForm, 1},
		{"01" + one, api.ErrShort, 0},
		{"01" + one + "80", api.ErrShort, 1},
		{"01" + one + "00", api.ErrRange, 1},
		{"01" + one + "818004", api.ErrRange, 3},
		{"01" + one + "8100 00", api.ErrForm, 3},
		{"02" + one + "05" + one + "00 00", api.ErrRange, 2},
		// As soon as the epoch has been read.
		{"02" + one + "05" + one + "04", api.ErrForm, 0},
		{"03" + one + "05" + one + "05" + one + "01 00 00 00 00", api.ErrForm, 4},
		{"00 02" + one + "808004" + one + "ffff03 00 00 00", api.ErrForm, 3},
		{"02" + one + "05" + one + "05 00 00 00", api.ErrShort, 0},
		{"01" + one + "01 01" + one + "01 01" + one + "01 01" + one + "01 01" + one, api.ErrShort, 0},
		// None.
		{"00 00 00 00 00", api.OK, 0},
		{"02" + one + "05" + one + "05 00 00 00 00 00", api.OK, 1},
		{"01" + one + "05 01" + one + "04 01" + one + "03 01" + one + "02 01" + one + "01", api.OK, 0},
		{"02" + one + "01" + one + "808004 00 00 00 02" + one + "01" + one + "01", api.OK, 0},
	} {
		given := unhex(c.digits)
		i := suite.NewIdeal()
		r := wire.Read(given)
		b := chain.Get(i, r)
		if r.Err() != c.e || r.Left() != c.left || (b == nil) != (c.e != api.OK) || b == nil && i.Len() != 0 {
			t.Error(k, r.Err(), r.Left(), b == nil, i.Len())
		}
		read(t, suite.NewIdeal(), &oracle{ideal: true}, given)
	}
}

// P20.3: the digests are asked for in the order of the links, and only once all is read; each names the one ahead.
func TestGetAsks(t *testing.T) {
	a := "20" + strings.Repeat("ab", 32)
	given := unhex("02" + a + "01" + a + "02 00 01" + a + "05 00 03" + a + "01" + a + "01" + a + "01")
	i := suite.NewIdeal()
	i.Hash([]byte("something else"))
	chain.Get(i, wire.Read(given[:len(given)-1]))
	if i.Len() != 1 {
		t.Error("asked, with an error:", i.Len())
	}
	b := chain.Get(i, wire.Read(given))
	name := func(n string) string { return "20 68" + n + strings.Repeat("00", 30) }
	terms := i.Terms()
	if b == nil || len(terms) != 7 {
		t.Fatal("terms:", terms)
	}
	for k, want := range []string{"00 01 01 00" + a, "00 02 02" + name("02") + a, "02 01 05 00" + a, "04 01 01 00" + a, "04 02 01" + name("05") + a, "04 03 01" + name("06") + a} {
		if x := terms[k+1]; x.Kind != 'h' || !bytes.Equal(x.Parts[0], unhex(want)) {
			t.Error(k, x)
		}
	}
	if d, epoch := b.At(4, 3); epoch != 1 || !bytes.Equal(d, unhex(name("07"))[1:]) {
		t.Error("At:", d, epoch)
	}
}

// P20.3: bytes of chance, most of them a book's with something changed.
func TestGetChance(t *testing.T) {
	each(t, func(t *testing.T, s suite.Suite, o *oracle) {
		rnd := rand.New(rand.NewPCG(20, 3))
		read, refused := 0, 0
		for range 4000 {
			given := chance(rnd)
			r := wire.Read(given)
			b := chain.Get(s, r)
			m, left, e := get(o, given)
			if r.Err() != e || r.Left() != left || (b == nil) != (e != api.OK) {
				t.Fatalf("Get of %x: %d, %d left, %t, not %d, %d", given, r.Err(), r.Left(), b == nil, e, left)
			}
			if b == nil {
				refused++
				continue
			}
			read++
			same(t, b, m)
			if put := b.Put(nil); !bytes.Equal(put, given[:len(given)-left]) {
				t.Fatal("put again:", put, given)
			}
			if o.ideal && len(o.asked) > 1000 {
				asked(t, s, o)
				s, o = suite.NewIdeal(), &oracle{ideal: true}
			}
		}
		if read < 500 || refused < 500 {
			t.Error("too few of one kind:", read, refused)
		}
	})
}

// chance is a book's bytes, some of them changed.
func chance(rnd *rand.Rand) []byte {
	var out []byte
	var ends []int
	for range authors {
		n := rnd.IntN(4) * rnd.IntN(2)
		out = uvarint(out, n)
		ends = append(ends, len(out)-1)
		epoch := 1
		for range n {
			out = append(out, 32)
			ends = append(ends, len(out)-1)
			out = append(out, body(byte(rnd.IntN(3)))...)
			epoch += rnd.IntN(2) * rnd.IntN(1+topEpoch/6)
			if rnd.IntN(30) == 0 {
				epoch = max(1, epoch-rnd.IntN(3))
			}
			out = uvarint(out, epoch)
			ends = append(ends, len(out)-1)
		}
	}
	switch rnd.IntN(4) {
	case 0: // one of the numbers
		out[ends[rnd.IntN(len(ends))]] = []byte{0, 1, 2, 31, 32, 33, 127, 128, 255}[rnd.IntN(9)]
	case 1:
		out = out[:rnd.IntN(len(out)+1)]
	case 2:
		out = append(out, ones(rnd.IntN(3), byte(rnd.Uint32()))...)
	}
	return out
}

// P20.3: of a reader that has an error already there is no book, and its error stays; so of none.
func TestGetFailed(t *testing.T) {
	i := suite.NewIdeal()
	r := wire.Read(chain.New().Put(nil))
	r.Fail(api.ErrFork)
	if b := chain.Get(i, r); b != nil || r.Err() != api.ErrFork || r.Left() != 5 {
		t.Error("an error:", b, r.Err())
	}
	for _, r := range []*wire.Reader{nil, {}} {
		if b := chain.Get(i, r); b != nil || r.Err() != api.ErrForm {
			t.Error("none:", b, r.Err())
		}
	}
	if i.Len() != 0 {
		t.Error("asked:", i.Len())
	}
}

// P20.1, P20.3: a chain of 2^20 links is read, put and compared; none goes on from it.
func TestFull(t *testing.T) {
	s := suite.NewReal(nil)
	given := uvarint([]byte{0}, topSeq)
	for n := range topSeq {
		given = append(append(given, 32), body(byte(n))...)
		given = uvarint(given, 1+n/16)
	}
	given = append(given, 0, 0, 0)
	r := wire.Read(given)
	b := chain.Get(s, r)
	if b == nil || r.End() != api.OK {
		t.Fatal("Get:", r.End())
	}
	h := b.Head(1)
	if h.Seq != topSeq || !bytes.Equal(b.Put(nil), given) {
		t.Error("Head:", h)
	}
	d, epoch := b.At(1, topSeq-1)
	last := api.Link{Author: 1, Seq: topSeq, Epoch: topEpoch, Prev: d, Body: body(255)}
	sum := sha256.Sum256(form(last))
	if !bytes.Equal(sum[:], h.Digest) || epoch != topEpoch {
		t.Error("the last one's digest:", sum, epoch)
	}
	if e := b.Check(s, last); e != api.ErrOld {
		t.Error("the last one:", e)
	}
	more := api.Link{Author: 1, Seq: topSeq + 1, Epoch: topEpoch, Prev: h.Digest, Body: body(1)}
	if b.Check(s, more) != api.ErrArg || b.Take(s, more) != api.ErrArg || !sameHead(b.Head(1), h) {
		t.Error("one more")
	}
	if how, forks, e := b.Compare(b.Vector()); how != (api.Relation{}) || len(forks) != 0 || e != api.OK {
		t.Error("Compare:", how, forks, e)
	}
	// The last one that may be is taken, too.
	cut := slices.Concat([]byte{0}, uvarint(nil, topSeq-1), given[4:len(given)-3-36], []byte{0, 0, 0})
	c := chain.Get(s, wire.Read(cut))
	if e := c.Take(s, last); e != api.OK || !sameHead(c.Head(1), h) || c.Check(s, more) != api.ErrArg {
		t.Error("up to the last one:", e)
	}
}

// P20.3: of a nil book, or one that nothing made, nothing.
func TestNoBook(t *testing.T) {
	i := suite.NewIdeal()
	l := api.Link{Author: 3, Seq: 1, Epoch: 1, Body: body(1)}
	for _, b := range []*chain.Book{nil, {}} {
		for _, x := range []api.Link{l, {}} {
			if e := b.Check(i, x); e != api.ErrArg {
				t.Error("Check:", e)
			}
			if e := b.Take(i, x); e != api.ErrArg {
				t.Error("Take:", e)
			}
		}
		for _, v := range [][]api.Head{nil, {{Author: 1, Seq: 1, Digest: body(1)}}, {{}}} {
			if how, forks, e := b.Compare(v); how != (api.Relation{}) || len(forks) != 0 || e != api.ErrArg {
				t.Error("Compare:", how, forks, e)
			}
		}
		for _, author := range []int{-1, 0, 3, 5} {
			if h := b.Head(author); !reflect.DeepEqual(h, api.Head{}) {
				t.Error("Head:", h)
			}
			if d, epoch := b.At(author, 1); len(d) != 0 || epoch != 0 {
				t.Error("At:", d, epoch)
			}
		}
		p, behind := roomy([]byte("ahead"))
		if got := b.Put(p); string(got) != "ahead" || len(b.Put(nil)) != 0 {
			t.Error("Put:", got)
		} else if spoil(got); string(p) != "ahead" || !bytes.Equal(behind, ones(100, 0xa5)) {
			t.Error("Put shares what is handed in")
		}
		if len(b.Vector()) != 0 || b.Clone() != nil || i.Len() != 0 {
			t.Error("Vector, Clone")
		}
	}
}

// P20.3: a clone has all, and goes its own way.
func TestClone(t *testing.T) {
	each(t, func(t *testing.T, s suite.Suite, o *oracle) {
		b, m := chain.New(), &model{}
		for range 40 {
			c, n := b.Clone(), m.clone()
			same(t, c, n)
			// In turns, so that room behind their lists that they had in common would show.
			for k := range 5 {
				written(t, s, o, b, m, k%2, 1, byte(k))
				same(t, c, n)
				written(t, s, o, c, n, k%3, 2, byte(100+k))
				same(t, b, m)
			}
			same(t, c, n)
		}
		asked(t, s, o)
	})
}

// walker is some books of one suite, each with its model.
type walker struct {
	rnd    *rand.Rand
	s      suite.Suite
	o      *oracle
	books  []*chain.Book
	models []*model
	forks  int // links that two books have unlike
	alike  int // chains of several links of which two books have the same head
}

// link is a link that often goes on from what some book knows, or is known to one.
func (w *walker) link() api.Link {
	m := w.models[w.rnd.IntN(len(w.models))]
	author := w.rnd.IntN(authors)
	h := m.head(author)
	l := api.Link{Author: author, Seq: h.Seq + 1, Epoch: 1, Prev: h.Digest, Body: body(byte(w.rnd.IntN(8) / 7))}
	if h.Seq > 0 {
		l.Epoch = m[author][h.Seq-1].Epoch + w.rnd.IntN(8)/7
		if w.rnd.IntN(3) == 0 {
			l = m[author][w.rnd.IntN(h.Seq)].Link
		}
	}
	if w.rnd.IntN(3) > 0 {
		return l
	}
	switch w.rnd.IntN(5) {
	case 0:
		l.Author = w.rnd.IntN(7) - 1
	case 1:
		l.Seq += w.rnd.IntN(5) - 2
	case 2:
		l.Epoch += w.rnd.IntN(5) - 2
	case 3:
		l.Prev = [][]byte{nil, body(1), ones(31, 1), m.head(w.rnd.IntN(authors)).Digest}[w.rnd.IntN(4)]
	case 4:
		l.Body = [][]byte{nil, body(2), ones(33, 1)}[w.rnd.IntN(3)]
	}
	return l
}

// vector is heads that some book knows, some of them changed.
func (w *walker) vector() []api.Head {
	var v []api.Head
	for a := range authors {
		m := w.models[w.rnd.IntN(len(w.models))]
		if len(m[a]) == 0 || w.rnd.IntN(6) == 0 {
			continue
		}
		seq := 1 + w.rnd.IntN(len(m[a]))
		h := api.Head{Author: a, Seq: seq, Digest: m[a][seq-1].digest}
		switch w.rnd.IntN(20) {
		case 0:
			h.Digest = body(3)
		case 1:
			h.Digest = h.Digest[:w.rnd.IntN(32)]
		case 2:
			h.Seq += w.rnd.IntN(7) - 3
		case 3:
			h.Author += w.rnd.IntN(3) - 1
		}
		v = append(v, h)
	}
	return v
}

// step does one thing, with one of the books.
func (w *walker) step(t *testing.T) {
	k := w.rnd.IntN(len(w.books))
	b, m := w.books[k], w.models[k]
	switch w.rnd.IntN(10) {
	case 0, 1:
		l := w.link()
		if e, f := b.Check(w.s, l), m.check(w.o, l); e != f {
			t.Fatal("Check:", l, e, f)
		}
	case 2, 3, 4, 5, 6:
		l := w.link()
		before := m.vector()
		if e, f := b.Take(w.s, l), m.take(w.o, l); e != f {
			t.Fatal("Take:", l, e, f)
		}
		// P20.4: it never becomes fewer.
		if how, forks, e := b.Compare(before); how.Ahead || len(forks) != 0 || e != api.OK {
			t.Fatal("what was known:", how, forks, e)
		}
	case 7, 8:
		v := w.vector()
		how, forks, e := b.Compare(v)
		if how2, forks2, f := m.compare(v); how != how2 || !slices.Equal(forks, forks2) || e != f {
			t.Fatal("Compare:", v, how, forks, e, how2, forks2, f)
		}
	case 9:
		if c := b.Clone(); len(w.books) < 4 {
			w.books, w.models = append(w.books, c), append(w.models, m.clone())
		} else {
			given := b.Put(nil)
			w.books[k], w.models[k] = read(t, w.s, w.o, given)
		}
	}
}

// holds holds what follows of the promises against the books.
func (w *walker) holds(t *testing.T) {
	for k, b := range w.books {
		same(t, b, w.models[k])
		// P20.5: of one book and its own vector.
		if how, forks, e := b.Compare(b.Vector()); how != (api.Relation{}) || len(forks) != 0 || e != api.OK {
			t.Fatal("with itself:", how, forks, e)
		}
		// P20.4: without gaps, each naming the one ahead.
		for a := range authors {
			var prev []byte
			for i, x := range w.models[k][a] {
				if x.Seq != i+1 || !bytes.Equal(x.Prev, prev) || !bytes.Equal(w.o.hash(x.Link), x.digest) {
					t.Fatal("a chain:", a, i, x)
				}
				prev = x.digest
			}
		}
		for j, c := range w.books {
			w.pair(t, b, c, w.models[k], w.models[j])
		}
	}
	asked(t, w.s, w.o)
}

// pair holds two books against each other.
func (w *walker) pair(t *testing.T, b, c *chain.Book, m, n *model) {
	for a := range authors {
		// P20.6: whoever is shown an unlike link of a Seq tells of the fork; by the vector, too, if it is the head.
		for i := range min(len(m[a]), len(n[a])) {
			want := api.ErrOld
			if !bytes.Equal(m[a][i].digest, n[a][i].digest) {
				want = api.ErrFork
				w.forks++
			}
			if e := b.Check(w.s, n[a][i].Link); e != want {
				t.Fatal("the other one's link:", a, i, e, want)
			}
		}
		// P20.7: heads that are alike have all links alike.
		if h := b.Head(a); !sameHead(h, c.Head(a)) {
			continue
		} else if h.Seq > 1 && b != c {
			w.alike++
		}
		for seq := range m[a] {
			d, epoch := b.At(a, seq+1)
			if x, y := c.At(a, seq+1); !bytes.Equal(d, x) || epoch != y || !bytes.Equal(form(m[a][seq].Link), form(n[a][seq].Link)) {
				t.Fatal("unlike links below one head:", a, seq)
			}
		}
	}
}

// P20.1 to P20.7: long walks of calls of chance, with books that go their own ways.
func TestWalks(t *testing.T) {
	each(t, func(t *testing.T, s suite.Suite, o *oracle) {
		forks, alike := 0, 0
		for seed := range uint64(60) {
			w := &walker{rnd: rand.New(rand.NewPCG(20, seed)), s: s, o: o}
			for range 2 {
				w.books, w.models = append(w.books, chain.New()), append(w.models, &model{})
			}
			if o.ideal {
				w.s, w.o = suite.NewIdeal(), &oracle{ideal: true}
			}
			for k := range 300 {
				w.step(t)
				if k%50 == 49 {
					w.holds(t)
				}
			}
			forks, alike = forks+w.forks, alike+w.alike
		}
		if forks < 1000 || alike < 1000 {
			t.Error("too few of one kind:", forks, alike)
		}
	})
}

// P20.6: two that share a beginning and then know unlike links: each tells the fork at the other one's link, and by a vector of its head.
func TestForks(t *testing.T) {
	each(t, func(t *testing.T, s suite.Suite, o *oracle) {
		for at := 1; at <= 6; at++ {
			b, m := chain.New(), &model{}
			for k := 1; k < at; k++ {
				written(t, s, o, b, m, 2, 1, byte(k))
			}
			c, n := b.Clone(), m.clone()
			mine, theirs := written(t, s, o, b, m, 2, 1, 50), written(t, s, o, c, n, 2, 1, 51)
			want := []api.Fork{{Author: 2, Seq: at}}
			if b.Check(s, theirs) != api.ErrFork || c.Check(s, mine) != api.ErrFork || b.Take(s, theirs) != api.ErrFork {
				t.Error("the other one's link:", at)
			}
			if how, forks, e := b.Compare(c.Vector()); how != (api.Relation{}) || !slices.Equal(forks, want) || e != api.OK {
				t.Error("the other one's head:", at, how, forks, e)
			}
			// Both go on alike: the chains stay apart.
			mine, theirs = written(t, s, o, b, m, 2, 1, 60), written(t, s, o, c, n, 2, 1, 60)
			if b.Check(s, theirs) != api.ErrFork || c.Check(s, mine) != api.ErrFork {
				t.Error("behind the fork:", at)
			}
			if how, forks, e := c.Compare(b.Vector()); how != (api.Relation{}) || !slices.Equal(forks, []api.Fork{{Author: 2, Seq: at + 1}}) || e != api.OK {
				t.Error("a head behind the fork:", at, how, forks, e)
			}
			same(t, b, m)
			same(t, c, n)
		}
	})
}

// The rule on memory: what is handed in is neither changed nor kept.
func TestMemoryIn(t *testing.T) {
	each(t, func(t *testing.T, s suite.Suite, o *oracle) {
		b, m := chain.New(), &model{}
		written(t, s, o, b, m, 1, 1, 1)
		h := m.head(1)
		l := api.Link{Author: 1, Seq: 2, Epoch: 4, Prev: h.Digest, Body: body(2)}
		prev, behindPrev := roomy(l.Prev)
		text, behindText := roomy(l.Body)
		handed := api.Link{Author: 1, Seq: 2, Epoch: 4, Prev: prev, Body: text}
		d := chain.Digest(s, handed)
		if b.Check(s, handed) != api.OK || b.Take(s, handed) != api.OK || b.Check(s, handed) != api.ErrOld || m.take(o, l) != api.OK {
			t.Fatal("taken")
		}
		if !bytes.Equal(prev, l.Prev) || !bytes.Equal(text, l.Body) || !bytes.Equal(behindPrev, ones(100, 0xa5)) || !bytes.Equal(behindText, ones(100, 0xa5)) {
			t.Error("a link was changed")
		}
		spoil(prev, text, d)
		same(t, b, m)

		digest, behind := roomy(ones(32, 9))
		v := append(make([]api.Head, 0, 3), api.Head{Author: 1, Seq: 2, Digest: digest})
		b.Compare(v)
		if more := v[:3]; !reflect.DeepEqual(more[1:], make([]api.Head, 2)) || !bytes.Equal(digest, ones(32, 9)) || !bytes.Equal(behind, ones(100, 0xa5)) {
			t.Error("a vector was changed")
		}
		p, behind := roomy([]byte("ahead"))
		put, again := b.Put(p), b.Put(p)
		if spoil(put); string(p) != "ahead" || !bytes.Equal(behind, ones(100, 0xa5)) || !bytes.Equal(again, append([]byte("ahead"), m.put()...)) {
			t.Error("Put shares, or changes, what is handed in:", again)
		}
		given, behind := roomy(m.put())
		c := chain.Get(s, wire.Read(given))
		if !bytes.Equal(given, m.put()) || !bytes.Equal(behind, ones(100, 0xa5)) {
			t.Error("what is read was changed")
		}
		spoil(given)
		same(t, c, m)
	})
}

// The rule on memory: answers are new, and share nothing with the book, with a clone, or with one another.
func TestMemoryOut(t *testing.T) {
	each(t, func(t *testing.T, s suite.Suite, o *oracle) {
		b, m := chain.New(), &model{}
		for k := range 9 {
			l := written(t, s, o, b, m, k%3, 1, byte(k))
			for seq := range m[l.Author] {
				// The model's own, so that what the test holds against is not what it writes over.
				m[l.Author][seq].digest = bytes.Clone(m[l.Author][seq].digest)
			}
		}
		c := b.Clone()
		lists := func() [][]byte {
			d, _ := b.At(1, 2)
			x, _ := c.At(1, 2)
			out := [][]byte{d, x, b.Put(nil), b.Head(1).Digest, b.Head(1).Digest, c.Head(1).Digest, chain.Digest(s, m[1][0].Link), chain.Digest(s, m[1][0].Link)}
			for _, v := range [][]api.Head{b.Vector(), b.Vector(), c.Vector()} {
				for _, h := range v {
					out = append(out, h.Digest)
				}
			}
			return out
		}
		all := lists()
		were := fmt.Sprint(all)
		for i := range all {
			was := bytes.Clone(all[i])
			spoil(all[i])
			all[i] = was
			if fmt.Sprint(all) != were {
				t.Fatal("shared:", i)
			}
		}
		v := b.Vector()
		clear(v[:cap(v)])
		bad := []api.Head{{Author: 0, Seq: 1, Digest: body(9)}, {Author: 1, Seq: 1, Digest: body(9)}, {Author: 2, Seq: 1, Digest: body(9)}}
		_, one, _ := b.Compare(bad)
		_, two, _ := b.Compare(bad)
		clear(one[:cap(one)])
		if len(two) != 3 || two[0].Seq != 1 || two[2].Author != 2 {
			t.Error("forks are shared:", two)
		}
		same(t, b, m)
		same(t, c, m)
	})
}
