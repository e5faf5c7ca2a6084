package wire_test

import (
	"bytes"
	"encoding/binary"
	"encoding/hex"
	"fmt"
	"math"
	"math/rand/v2"
	"slices"
	"testing"

	"sealwax/api"
	"sealwax/wire"
)

const top = 1 << 40 // the greatest number, by the document's words

// numbers are those next to where a number's bytes become more, to each power of two, and to the ends.
func numbers() []int {
	var out []int
	for bit := range 41 {
		for _, n := range []int{1<<bit - 1, 1 << bit, 1<<bit + 1, 1<<bit | 1<<(bit/2)} {
			if n <= top {
				out = append(out, n)
			}
		}
	}
	return append(out, 300, 0x55555555, top-1, top-128, top-127)
}

// form is a number's bytes, which are those of the library's own numbers without a sign.
func form(n int) []byte { return binary.AppendUvarint(nil, uint64(n)) }

// textForm is a text's bytes.
func textForm(s []byte) []byte { return slices.Concat(form(len(s)), s) }

// told is what a reader must tell of the number at the beginning of these bytes, and how many bytes it has.
func told(b []byte, least, most int) (int, int, api.Errno) {
	end := slices.IndexFunc(b[:min(6, len(b))], func(x byte) bool { return x < 128 })
	if end < 0 && len(b) < 6 {
		return 0, 0, api.ErrShort
	}
	if end < 0 || end > 0 && b[end] == 0 {
		return 0, 0, api.ErrForm
	}
	n := 0
	for i := end; i >= 0; i-- {
		n = n*128 + int(b[i])%128
	}
	if n > top || n < least || n > most {
		return 0, 0, api.ErrRange
	}
	return n, end + 1, api.OK
}

// toldText is what a reader must tell of the text at the beginning of these bytes, and how many bytes it has.
func toldText(b []byte, most int) ([]byte, int, api.Errno) {
	n, size, e := told(b, 0, top)
	switch {
	case e != api.OK:
		return nil, 0, e
	case n > 0 && n > most:
		return nil, 0, api.ErrLong
	case n > len(b)-size:
		return nil, 0, api.ErrShort
	}
	return b[size : size+n], size + n, api.OK
}

// answer is what a call of a reader told, of whatever kind.
type answer struct {
	n    int
	text string
	flag bool
}

// String is what a failing test shows of it.
func (a answer) String() string { return fmt.Sprintf("{%d %.40x %t}", a.n, a.text, a.flag) }

// ask is a call of a reader, with what it must tell of the bytes behind, and how many of them it takes.
type ask struct {
	what string
	call func(r *wire.Reader) answer
	want func(b []byte) (answer, int, api.Errno)
}

// askNumber asks for a number.
func askNumber(least, most int) ask {
	return ask{
		"Number",
		func(r *wire.Reader) answer { return answer{n: r.Number(least, most)} },
		func(b []byte) (answer, int, api.Errno) {
			n, size, e := told(b, least, most)
			return answer{n: n}, size, e
		},
	}
}

// askText asks for a text.
func askText(most int) ask {
	return ask{
		"Text",
		func(r *wire.Reader) answer { return answer{text: string(r.Text(most))} },
		func(b []byte) (answer, int, api.Errno) {
			s, size, e := toldText(b, most)
			return answer{text: string(s)}, size, e
		},
	}
}

// askFixed asks for so many bytes.
func askFixed(n int) ask {
	return ask{
		"Fixed",
		func(r *wire.Reader) answer { return answer{text: string(r.Fixed(n))} },
		func(b []byte) (answer, int, api.Errno) {
			size := max(n, 0)
			if size > len(b) {
				return answer{}, 0, api.ErrShort
			}
			return answer{text: string(b[:size])}, size, api.OK
		},
	}
}

// askFlag asks for a flag.
func askFlag() ask {
	return ask{
		"Flag",
		func(r *wire.Reader) answer { return answer{flag: r.Flag()} },
		func(b []byte) (answer, int, api.Errno) {
			n, size, e := told(b, 0, 1)
			return answer{flag: n == 1}, size, e
		},
	}
}

// asks are some of each kind, that take much or nothing.
func asks() []ask {
	return []ask{
		askNumber(0, top), askNumber(0, 0), askNumber(math.MinInt, math.MaxInt), askNumber(5, 4),
		askText(math.MaxInt), askText(0), askText(-1), askText(3),
		askFixed(0), askFixed(-1), askFixed(1), askFixed(math.MaxInt), askFixed(math.MinInt),
		askFlag(),
	}
}

// stands holds where a reader stands, and its errors, against what they must be.
func stands(t *testing.T, r *wire.Reader, left int, e api.Errno, what ...any) {
	t.Helper()
	end := e
	if e == api.OK && left > 0 {
		end = api.ErrMore
	}
	for range 2 { // to be asked changes nothing
		if r.Left() != left || r.Err() != e || r.End() != end {
			t.Fatalf("%v: Left %d, Err %d, End %d, want %d, %d, %d", what, r.Left(), r.Err(), r.End(), left, e, end)
		}
	}
}

// tells makes a call of a reader with these bytes behind, holds it against what it must be, and answers how many bytes it took, and its error.
func tells(t *testing.T, r *wire.Reader, b []byte, a ask, what ...any) (int, api.Errno) {
	t.Helper()
	want, size, e := a.want(b)
	if got := a.call(r); got != want {
		t.Fatalf("%v: %s of %.20x: %v, want %v", what, a.what, b, got, want)
	}
	stands(t, r, len(b)-size, e, append(what, a.what)...)
	return size, e
}

// deaf tells of a reader that tells anything, or whose error or place changes.
func deaf(t *testing.T, r *wire.Reader, what ...any) {
	t.Helper()
	left, e, end := r.Left(), r.Err(), r.End()
	for _, a := range asks() {
		if got := a.call(r); got != (answer{}) || r.Left() != left || r.Err() != e || r.End() != end {
			t.Fatalf("%v: %s told %v; Left %d, Err %d, End %d; want nothing, %d, %d, %d", what, a.what, got, r.Left(), r.Err(), r.End(), left, e, end)
		}
	}
	r.Fail(api.ErrPad)
	r.Fail(api.OK)
	if r.Left() != left || r.Err() != e || r.End() != end {
		t.Fatalf("%v: behind Fail: Left %d, Err %d, End %d, want %d, %d, %d", what, r.Left(), r.Err(), r.End(), left, e, end)
	}
}

// chance is n bytes out of chance, with room behind their end that is not nought.
func chance(r *rand.Rand, n int) []byte {
	b := make([]byte, n+50)
	for i := range b {
		b[i] = byte(r.Uint32()) | 1<<(r.Uint32()%8)
	}
	return b[:n]
}

// whole is a list with the room behind its end.
func whole(b []byte) []byte { return b[:cap(b)] }

// flip changes each byte of a list, and of the room behind it.
func flip(b []byte) {
	for i := range whole(b) {
		whole(b)[i] ^= 255
	}
}

// un is the bytes of these digits.
func un(s string) []byte {
	b, err := hex.DecodeString(s)
	if err != nil {
		panic(err)
	}
	return b
}

// P13.1, P13.2: numbers whose bytes were worked out by hand, put and read.
func TestKnown(t *testing.T) {
	for _, c := range []struct {
		n    int
		want string
	}{
		{0, "00"}, {1, "01"}, {127, "7f"}, {128, "8001"}, {129, "8101"}, {255, "ff01"}, {256, "8002"}, {300, "ac02"},
		{1<<14 - 1, "ff7f"}, {1 << 14, "808001"}, {1<<21 - 1, "ffff7f"}, {1 << 21, "80808001"},
		{1<<28 - 1, "ffffff7f"}, {1 << 28, "8080808001"}, {1<<35 - 1, "ffffffff7f"}, {1 << 35, "808080808001"},
		{top - 1, "ffffffffff1f"}, {top, "808080808020"},
	} {
		if got := hex.EncodeToString(wire.Number(nil, c.n)); got != c.want {
			t.Errorf("Number of %d: %s, want %s", c.n, got, c.want)
		}
		r := wire.Read(un(c.want))
		if n := r.Number(0, top); n != c.n {
			t.Errorf("Number of %s: %d, want %d", c.want, n, c.n)
		}
		stands(t, r, 0, api.OK, c.want)
	}
}

// P13.2: bytes that are no number, by hand.
func TestNone(t *testing.T) {
	for _, c := range []struct {
		b    string
		want api.Errno
	}{
		{"", api.ErrShort}, {"80", api.ErrShort}, {"ff", api.ErrShort}, {"8080", api.ErrShort}, {"ffffffff", api.ErrShort}, {"8080808080", api.ErrShort}, {"ffffffffff", api.ErrShort},
		{"8000", api.ErrForm}, {"ff00", api.ErrForm}, {"800001", api.ErrForm}, {"808000", api.ErrForm}, {"808080808000", api.ErrForm}, {"ffffffffff00", api.ErrForm},
		{"808080808080", api.ErrForm}, {"8080808080a0", api.ErrForm}, {"ffffffffffff", api.ErrForm}, {"80808080808001", api.ErrForm}, {"ffffffffff8020", api.ErrForm},
		{"818080808020", api.ErrRange}, {"808080808021", api.ErrRange}, {"808080808040", api.ErrRange}, {"ffffffffff7f", api.ErrRange}, {"ffffffffff20", api.ErrRange},
	} {
		for _, a := range []ask{askNumber(0, top), askNumber(math.MinInt, math.MaxInt), askNumber(9, 2), askText(math.MaxInt), askText(-1), askFlag()} {
			r := wire.Read(un(c.b))
			got := a.call(r)
			if got != (answer{}) {
				t.Fatalf("%s of %s: %v, want nothing", a.what, c.b, got)
			}
			stands(t, r, len(c.b)/2, c.want, a.what, c.b)
			deaf(t, r, a.what, c.b)
		}
	}
}

// P13.1: all kinds of numbers, behind no bytes and behind some; those that are out of range.
func TestNumber(t *testing.T) {
	r := rand.New(rand.NewPCG(13, 1))
	try := func(b []byte, n, as int) {
		t.Helper()
		if got, want := wire.Number(b, n), slices.Concat(b, form(as)); !bytes.Equal(got, want) {
			t.Fatalf("Number of %d behind %x: %x, want %x", n, b, got, want)
		}
	}
	for _, n := range numbers() {
		for size := range 4 {
			try(chance(r, size), n, n)
		}
		try(chance(r, 1000), n, n)
	}
	for n := range 70000 {
		try(nil, n, n)
	}
	for range 20000 {
		n := r.IntN(top+1) >> r.IntN(41)
		try(chance(r, 2), n, n)
	}
	for _, n := range []int{-1, -2, -127, -128, -top, math.MinInt32, math.MinInt, math.MinInt + 1} {
		try([]byte{7}, n, 0)
	}
	for _, n := range []int{top + 1, top + 2, 2 * top, 1 << 42, 1 << 62, math.MaxInt - 1, math.MaxInt} {
		try([]byte{7}, n, top)
	}
}

// P13.1: texts, those too whose number has more bytes; and flags.
func TestTextAndFlag(t *testing.T) {
	r := rand.New(rand.NewPCG(13, 2))
	for _, n := range []int{0, 1, 2, 31, 32, 63, 64, 127, 128, 129, 300, 16383, 16384, 16385, 1<<21 - 1, 1 << 21} {
		for size := range 3 {
			b, s := chance(r, size*7), chance(r, n)
			if got, want := wire.Text(b, s), slices.Concat(b, textForm(s)); !bytes.Equal(got, want) {
				t.Fatalf("Text of %d bytes behind %x: %.40x, want %.40x", n, b, got, want)
			}
		}
	}
	for size := range 20 {
		b := chance(r, size)
		if got := wire.Flag(b, false); !bytes.Equal(got, slices.Concat(b, []byte{0})) {
			t.Fatalf("Flag of false behind %x: %x", b, got)
		}
		if got := wire.Flag(b, true); !bytes.Equal(got, slices.Concat(b, []byte{1})) {
			t.Fatalf("Flag of true behind %x: %x", b, got)
		}
	}
}

// P13.2: all beginnings of one and of two bytes, and all of up to seven out of the bytes that are at an edge.
func TestAllBytes(t *testing.T) {
	try := func(b []byte) {
		for _, a := range []ask{askNumber(0, top), askText(3), askFlag()} {
			tells(t, wire.Read(b), b, a, b)
		}
	}
	for x := range 256 {
		try([]byte{byte(x)})
		for y := range 256 {
			try([]byte{byte(x), byte(y)})
			try([]byte{byte(x), byte(y), 0, 1, 2})
		}
	}
	edges := []byte{0, 1, 0x20, 0x7f, 0x80, 0xff}
	var grow func(b []byte)
	grow = func(b []byte) {
		tells(t, wire.Read(b), b, askNumber(0, top), b)
		if len(b) < 7 {
			for _, x := range edges {
				grow(append(b, x))
			}
		}
	}
	grow(nil)
}

// P13.2: the ends of a range are in it, and nothing beyond; of some ranges nothing is.
func TestRange(t *testing.T) {
	ends := append(numbers(), -1, -2, -top, math.MinInt, top+1, 1<<42-1, 1<<42, math.MaxInt)
	for _, n := range numbers() {
		b := append(form(n), 9)
		for _, c := range [][2]int{{n, n}, {n - 1, n}, {n, n + 1}, {n + 1, n + 1}, {n - 1, n - 1}, {n + 1, n - 1}, {n + 1, n}, {n, n - 1}, {n + 1, math.MaxInt}, {math.MinInt, n - 1}} {
			tells(t, wire.Read(b), b, askNumber(c[0], c[1]), n, c)
		}
		for _, end := range ends {
			tells(t, wire.Read(b), b, askNumber(end, math.MaxInt), n, "from", end)
			tells(t, wire.Read(b), b, askNumber(math.MinInt, end), n, "to", end)
			tells(t, wire.Read(b), b, askNumber(end, end), n, "just", end)
		}
	}
	for _, n := range []int{top + 1, top + 128, 1<<42 - 1} { // has six bytes, too
		tells(t, wire.Read(form(n)), form(n), askNumber(n, n), n)
	}
}

// P13.2: texts of each length with each most, all there or not; an error of how many comes ahead, then ErrLong.
func TestReadText(t *testing.T) {
	r := rand.New(rand.NewPCG(13, 3))
	for n := range 140 {
		b := slices.Concat(textForm(chance(r, n)), []byte{1, 2})
		for _, most := range []int{math.MinInt, -1, 0, 1, n - 1, n, n + 1, 2 * n, top, math.MaxInt} {
			tells(t, wire.Read(b), b, askText(most), n, "most", most)
			for cut := range len(b) {
				tells(t, wire.Read(b[:cut]), b[:cut], askText(most), n, "most", most, "cut", cut)
			}
		}
	}
	for _, n := range numbers() {
		b := slices.Concat(form(n), []byte{5})
		for _, most := range []int{math.MinInt, -1, 0, n - 1, n, math.MaxInt} {
			tells(t, wire.Read(b), b, askText(most), n, "most", most)
		}
	}
	long := textForm(chance(r, 1<<21))
	tells(t, wire.Read(long), long, askText(1<<21), "a long one")
	tells(t, wire.Read(long), long, askText(1<<21-1), "a long one")
}

// P13.2: as many bytes as are asked for, as far as there are so many.
func TestFixed(t *testing.T) {
	r := rand.New(rand.NewPCG(13, 4))
	for size := range 70 {
		b := chance(r, size)
		for n := range 80 {
			reader := wire.Read(b)
			took, _ := tells(t, reader, b, askFixed(n), size)
			if took == n {
				tells(t, reader, b[took:], askFixed(size-n), size, "behind", n)
			}
		}
		for _, n := range []int{-1, -size, math.MinInt, math.MaxInt, math.MaxInt - 1, top} {
			tells(t, wire.Read(b), b, askFixed(n), size)
		}
	}
}

// P13.2: the first fault is the error, and stays; the reader stands where it stood, and tells nothing.
func TestFault(t *testing.T) {
	for _, c := range []struct {
		a    ask
		b    []byte
		want api.Errno
	}{
		{askNumber(0, top), nil, api.ErrShort},
		{askNumber(0, top), []byte{0x80, 0x81, 0x82}, api.ErrShort},
		{askNumber(0, top), []byte{0x81, 0, 1}, api.ErrForm},
		{askNumber(0, 5), []byte{6, 1}, api.ErrRange},
		{askText(9), []byte{3, 1, 2}, api.ErrShort},
		{askText(2), []byte{3, 1, 2, 3, 1}, api.ErrLong},
		{askText(2), []byte{3}, api.ErrLong},
		{askText(9), []byte{0x83, 0, 1, 2, 3}, api.ErrForm},
		{askText(9), []byte{0x80, 0x80, 0x80, 0x80, 0x80, 0x21}, api.ErrRange},
		{askFixed(3), []byte{1, 1}, api.ErrShort},
		{askFlag(), []byte{2, 1}, api.ErrRange},
		{askFlag(), []byte{0x81, 0}, api.ErrForm},
	} {
		for n := range 3 { // bytes that were read ahead of it
			b := slices.Concat(make([]byte, n), c.b)
			r := wire.Read(b)
			r.Fixed(n)
			if _, e := tells(t, r, c.b, c.a, "behind", n); e != c.want {
				t.Errorf("%s of %x: the words say %d, want %d", c.a.what, c.b, e, c.want)
			}
			deaf(t, r, c.a.what, c.b)
			stands(t, r, len(c.b), c.want, c.a.what, c.b)
		}
	}
}

// P13.2: Fail gives any error, once, wherever it stands; and OK is none.
func TestFail(t *testing.T) {
	for _, e := range []api.Errno{api.ErrArg, api.ErrMore, api.ErrForm, api.ErrStep, 27, -1, math.MinInt, math.MaxInt} {
		for n := range 4 {
			r := wire.Read([]byte{1, 1, 1})
			r.Fixed(n)
			r.Fail(api.OK)
			stands(t, r, 3-n, api.OK, "Fail of OK")
			r.Fail(e)
			stands(t, r, 3-n, e, "Fail of", e)
			deaf(t, r, "Fail of", e)
			for _, other := range []api.Errno{api.ErrSeal, api.OK, -1} {
				r.Fail(other)
				stands(t, r, 3-n, e, "Fail of", e, "and of", other)
			}
		}
	}
	r := wire.Read(nil)
	r.Number(0, 1)
	r.Fail(api.ErrPad)
	stands(t, r, 0, api.ErrShort, "a fault ahead of Fail")
}

// P13.2: of a nil reader, and of one that Read did not make, nothing is told but ErrForm.
func TestUnmade(t *testing.T) {
	var none *wire.Reader
	for i, r := range []*wire.Reader{none, new(wire.Reader), {}} {
		for range 2 {
			if r.Left() != 0 || r.Err() != api.ErrForm || r.End() != api.ErrForm {
				t.Errorf("reader %d: Left %d, Err %d, End %d", i, r.Left(), r.Err(), r.End())
			}
			deaf(t, r, "reader", i)
			r.Fail(api.ErrSeal)
		}
	}
}

// P13.2: of no bytes, nil or empty, there is nothing, and End is OK.
func TestNothing(t *testing.T) {
	for _, b := range [][]byte{nil, {}, chance(rand.New(rand.NewPCG(13, 5)), 0)} {
		for _, a := range asks() {
			r := wire.Read(b)
			stands(t, r, 0, api.OK, "nothing")
			tells(t, r, nil, a, "nothing")
		}
		if got := wire.Number(b, 5); !bytes.Equal(got, []byte{5}) {
			t.Errorf("Number behind nothing: %x", got)
		}
		if got := wire.Text(b, b); !bytes.Equal(got, []byte{0}) {
			t.Errorf("Text of nothing behind nothing: %x", got)
		}
	}
}

// put is what some calls put, one behind the other, and the calls that must read just that.
func put(r *rand.Rand) ([]byte, []ask, []answer) {
	var b []byte
	var calls []ask
	var want []answer
	for range r.IntN(12) {
		switch n := r.IntN(top+1) >> r.IntN(41); r.IntN(4) {
		case 0:
			b = wire.Number(b, n)
			calls, want = append(calls, askNumber(n-r.IntN(2), n+r.IntN(2))), append(want, answer{n: n})
		case 1:
			s := chance(r, n%200)
			b = wire.Text(b, s)
			calls, want = append(calls, askText(len(s)+r.IntN(2))), append(want, answer{text: string(s)})
		case 2:
			b = wire.Flag(b, n%2 == 1)
			calls, want = append(calls, askFlag()), append(want, answer{flag: n%2 == 1})
		case 3:
			s := chance(r, n%50)
			b = slices.Concat(b, s)
			calls, want = append(calls, askFixed(len(s))), append(want, answer{text: string(s)})
		}
	}
	return b, calls, want
}

// P13.3: what is put is read as it was, whatever stands behind; then those bytes stand behind.
func TestRoundTrip(t *testing.T) {
	r := rand.New(rand.NewPCG(13, 6))
	for i := range 5000 {
		b, calls, want := put(r)
		behind := chance(r, i%9)
		reader := wire.Read(slices.Concat(b, behind))
		for k, a := range calls {
			if got := a.call(reader); got != want[k] || reader.Err() != api.OK {
				t.Fatalf("%d, call %d: %s told %v, error %d, want %v", i, k, a.what, got, reader.Err(), want[k])
			}
		}
		stands(t, reader, len(behind), api.OK, i)
		if got := reader.Fixed(len(behind)); !bytes.Equal(got, behind) {
			t.Fatalf("%d: behind it stands %x, want %x", i, got, behind)
		}
		stands(t, reader, 0, api.OK, i)
	}
	for _, n := range numbers() {
		for x := range 256 {
			b := append(wire.Number(nil, n), byte(x))
			tells(t, wire.Read(b), b, askNumber(n, n), n)
		}
	}
}

// again is what was told of a call, put again.
func again(a ask, got answer) []byte {
	switch a.what {
	case "Number":
		return wire.Number(nil, got.n)
	case "Text":
		return wire.Text(nil, []byte(got.text))
	case "Flag":
		return wire.Flag(nil, got.flag)
	}
	return []byte(got.text)
}

// P13.4: of any bytes: what is read, put again, is the bytes that were read.
func TestPutAgain(t *testing.T) {
	r := rand.New(rand.NewPCG(13, 7))
	read := map[string]int{}
	for range 60000 {
		b := chance(r, r.IntN(30))
		for i := range b {
			b[i] &= byte(255 >> r.IntN(9)) // small ones often, and nought
		}
		for _, a := range asks() {
			reader := wire.Read(b)
			got := a.call(reader)
			if reader.Err() != api.OK {
				continue
			}
			read[a.what]++
			if was := b[:len(b)-reader.Left()]; !bytes.Equal(again(a, got), was) {
				t.Fatalf("%s of %x read %x: %v, put again %x", a.what, b, was, got, again(a, got))
			}
		}
	}
	for _, what := range []string{"Number", "Text", "Flag", "Fixed"} {
		if read[what] < 1000 {
			t.Fatalf("%s was read %d times alone", what, read[what])
		}
	}
}

// P13.5: each beginning of a number, a text or a flag, but for the whole, is short.
func TestBeginning(t *testing.T) {
	try := func(b []byte, a ask) {
		t.Helper()
		for cut := range len(b) {
			r := wire.Read(b[:cut])
			if got := a.call(r); got != (answer{}) {
				t.Fatalf("%s of %x, cut to %d: %v", a.what, b, cut, got)
			}
			stands(t, r, cut, api.ErrShort, a.what, b, cut)
		}
	}
	for _, n := range numbers() {
		try(wire.Number(nil, n), askNumber(n, n))
		try(wire.Number(nil, n), askNumber(n+1, n-1)) // its range is not known as yet
	}
	r := rand.New(rand.NewPCG(13, 8))
	for n := range 300 {
		try(wire.Text(nil, chance(r, n)), askText(n))
	}
	try(wire.Flag(nil, true), askFlag())
	try(wire.Flag(nil, false), askFlag())
}

// P13.2: any calls of a reader of any bytes, one behind the other, up to a fault and beyond it.
func TestAnyCalls(t *testing.T) {
	r := rand.New(rand.NewPCG(13, 9))
	for i := range 30000 {
		b := chance(r, r.IntN(60))
		for k := range b {
			if r.IntN(2) == 0 {
				b[k] %= 6
			}
		}
		reader, rest := wire.Read(b), b
		for range 20 {
			n := r.IntN(12) - 2
			a := []ask{askNumber(n, 200), askNumber(0, top), askText(n + 9), askFixed(n), askFlag()}[r.IntN(5)]
			took, e := tells(t, reader, rest, a, i)
			if e != api.OK {
				deaf(t, reader, i, "behind", e)
				break
			}
			rest = rest[took:]
		}
	}
}

// A text may say that it is longer than any memory: that is told without any.
func TestHuge(t *testing.T) {
	b := slices.Concat(form(top), []byte{1, 2, 3})
	n := testing.AllocsPerRun(10, func() {
		r := wire.Read(b)
		r.Text(math.MaxInt)
		if r.Err() != api.ErrShort || r.Left() != len(b) {
			t.Error("a text of 2^40 bytes:", r.Err(), r.Left())
		}
		r = wire.Read(b)
		r.Fixed(math.MaxInt)
		if r.Err() != api.ErrShort || r.Left() != len(b) {
			t.Error("Fixed of huge many:", r.Err(), r.Left())
		}
	})
	if n > 4 {
		t.Error("memory was taken so often:", n)
	}
}

// What is put behind bytes is new memory, whatever room they have; these, and the text, are not changed.
func TestMemoryOfPut(t *testing.T) {
	r := rand.New(rand.NewPCG(13, 10))
	for _, size := range []int{0, 1, 8, 100} {
		for i, call := range []func(b, s []byte) []byte{
			func(b, _ []byte) []byte { return wire.Number(b, 5) },
			func(b, _ []byte) []byte { return wire.Number(b, top) },
			func(b, _ []byte) []byte { return wire.Number(b, -1) },
			func(b, _ []byte) []byte { return wire.Flag(b, true) },
			func(b, _ []byte) []byte { return wire.Flag(b, false) },
			wire.Text,
			func(b, _ []byte) []byte { return wire.Text(b, nil) },
			func(_, s []byte) []byte { return wire.Text(nil, s) },
			func(b, _ []byte) []byte { return wire.Text(b, b) },
			func(b, _ []byte) []byte { return wire.Text(b, whole(b)) },
			func(b, _ []byte) []byte { return wire.Text(whole(b)[size:], b) },
		} {
			b, s := chance(r, size), chance(r, size)
			wasB, wasS := bytes.Clone(whole(b)), bytes.Clone(whole(s))
			out, other := call(b, s), call(b, s)
			want := bytes.Clone(out)
			flip(other)
			if !bytes.Equal(whole(b), wasB) || !bytes.Equal(whole(s), wasS) {
				t.Errorf("call %d of %d bytes: what was handed in was changed", i, size)
			}
			flip(b)
			flip(s)
			if !bytes.Equal(out, want) {
				t.Errorf("call %d of %d bytes: the answer was changed from outside", i, size)
			}
		}
	}
}

// A reader keeps nothing that is handed in, and what it tells shares nothing with it, nor one with the other.
func TestMemoryOfRead(t *testing.T) {
	r := rand.New(rand.NewPCG(13, 11))
	s := chance(r, 40)
	b := append(chance(r, 0), slices.Concat(textForm(s), s, textForm(nil), textForm(s), []byte{7})...)
	was := bytes.Clone(whole(b))
	reader, other := wire.Read(b), wire.Read(b)
	if !bytes.Equal(whole(b), was) {
		t.Error("Read has changed what was handed in")
	}
	flip(b)
	first, second, none, third := reader.Text(40), reader.Fixed(40), reader.Text(9), reader.Text(99)
	want := [][]byte{s, s, nil, s}
	lists := [][]byte{first, second, none, third}
	for i := range lists {
		if !bytes.Equal(lists[i], want[i]) {
			t.Errorf("list %d: %x, want %x", i, lists[i], want[i])
		}
		flip(lists[i])
		for k := i + 1; k < len(lists); k++ {
			if !bytes.Equal(lists[k], want[k]) {
				t.Errorf("list %d shares memory with list %d", k, i)
			}
		}
	}
	if n := reader.Number(7, 7); n != 7 || reader.End() != api.OK {
		t.Error("behind the lists:", n, reader.End())
	}
	if got := other.Text(40); !bytes.Equal(got, s) || other.Left() != len(b)-41 || other.Err() != api.OK {
		t.Errorf("the other reader: %x, Left %d, Err %d", got, other.Left(), other.Err())
	}
}

// Two readers of the same bytes know nothing of one another.
func TestTwo(t *testing.T) {
	b := []byte{1, 2, 3}
	one, two := wire.Read(b), wire.Read(b)
	one.Number(0, 9)
	stands(t, two, 3, api.OK, "the other one has read")
	one.Fail(api.ErrPad)
	stands(t, two, 3, api.OK, "the other one has failed")
	tells(t, two, b, askFixed(3), "the other one has failed")
	stands(t, one, 2, api.ErrPad, "the failed one")
}
