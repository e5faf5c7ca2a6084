package caret_test

import (
	"math"
	"math/rand/v2"
	"slices"
	"strings"
	"testing"
	"unicode/utf8"

	"sealwax/api"
	"sealwax/caret"
)

const (
	narrowest = 2 // columns, by the document's words
	broadest  = 200
)

var wrongColumns = []int{math.MinInt, -200, -2, -1, 0, 1, 201, 1 << 32, math.MaxInt}

// width is a rune's width, by the document's words.
func width(c rune) int {
	if c == 10 {
		return 0
	}
	if c < 0x1100 {
		return 1
	}
	return 2
}

// page is a text's carets, worked out line's end by line's end: each stretch between two is laid in rows.
func page(s string, columns int) []complex128 {
	var out []complex128
	row := 0
	for _, stretch := range strings.Split(s, "\n") {
		column := 0
		for len(stretch) > 0 {
			c, size := utf8.DecodeRuneInString(stretch)
			stretch = stretch[size:]
			if column > columns-width(c) {
				row, column = row+1, 0
			}
			out = append(out, complex(float64(column), float64(row)))
			column += width(c)
		}
		out = append(out, complex(float64(column), float64(row)))
		row++
	}
	return out
}

// nearest is At's caret, sought in the list of all.
func nearest(carets []complex128, place complex128) int {
	line := 0.0
	for _, at := range carets {
		if imag(at) <= imag(place) && imag(at) > line {
			line = imag(at)
		}
	}
	for i := len(carets) - 1; i >= 0; i-- {
		if imag(carets[i]) == line && real(carets[i]) <= real(place) {
			return i
		}
	}
	return slices.IndexFunc(carets, func(at complex128) bool { return imag(at) == line })
}

// finite: both parts are numbers, and neither is infinite.
func finite(place complex128) bool {
	for _, part := range []float64{real(place), imag(place)} {
		if part != part || part > math.MaxFloat64 || part < -math.MaxFloat64 {
			return false
		}
	}
	return true
}

func at(s string, columns int, place complex128) (int, api.Errno) {
	switch {
	case columns < narrowest || columns > broadest:
		return 0, api.ErrRange
	case !finite(place):
		return 0, api.ErrArg
	}
	return nearest(page(s, columns), place), api.OK
}

func move(s string, columns, i int, by complex128) (int, api.Errno) {
	carets := page(s, columns)
	if columns < narrowest || columns > broadest || i < 0 || i >= len(carets) {
		return 0, api.ErrRange
	}
	return at(s, columns, complex(real(carets[i])+real(by), imag(carets[i])+imag(by)))
}

func box(s string, columns, i, k int) (complex128, complex128, api.Errno) {
	carets := page(s, columns)
	if columns < narrowest || columns > broadest || !slices.IsSorted([]int{0, i, k, len(carets) - 1}) {
		return 0, 0, api.ErrRange
	}
	var across, down []float64
	for _, place := range carets[i : k+1] {
		across, down = append(across, real(place)), append(down, imag(place))
	}
	return complex(slices.Min(across), slices.Min(down)), complex(slices.Max(across), slices.Max(down)), api.OK
}

// texts gives all texts of up to so many of some pieces.
func texts(most int, pieces ...string) []string {
	out, last := []string{""}, []string{""}
	for range most {
		var longer []string
		for _, s := range last {
			for _, p := range pieces {
				longer = append(longer, s+p)
			}
		}
		out, last = append(out, longer...), longer
	}
	return out
}

// chance is a text out of chance.
func chance(r *rand.Rand, most int) string {
	pieces := []string{"a", "b", " ", "\n", "\t", "\r", "\x00", "\u00e9", "\u10ff", "\u1100", "\u4e2d", "\U0001f600", "\x80", "\xff", "\xe4\xb8"}
	var b strings.Builder
	for range r.IntN(most + 1) {
		b.WriteString(pieces[r.IntN(len(pieces))])
	}
	return b.String()
}

func checkPlaces(t *testing.T, s string, columns int) []complex128 {
	t.Helper()
	got, e := caret.Places(s, columns)
	if want := page(s, columns); e != api.OK || !slices.Equal(got, want) {
		t.Fatalf("Places(%q, %d): %v, error %d; want %v", s, columns, got, e, want)
	}
	return got
}

func checkAt(t *testing.T, s string, columns int, place complex128) {
	t.Helper()
	got, e := caret.At(s, columns, place)
	if want, wantE := at(s, columns, place); got != want || e != wantE {
		t.Fatalf("At(%q, %d, %v): %d, error %d; want %d, error %d", s, columns, place, got, e, want, wantE)
	}
}

func checkMove(t *testing.T, s string, columns, i int, by complex128) {
	t.Helper()
	got, e := caret.Move(s, columns, i, by)
	if want, wantE := move(s, columns, i, by); got != want || e != wantE {
		t.Fatalf("Move(%q, %d, %d, %v): %d, error %d; want %d, error %d", s, columns, i, by, got, e, want, wantE)
	}
}

func checkBox(t *testing.T, s string, columns, i, k int) {
	t.Helper()
	least, most, e := caret.Box(s, columns, i, k)
	if a, b, wantE := box(s, columns, i, k); least != a || most != b || e != wantE {
		t.Fatalf("Box(%q, %d, %d, %d): %v, %v, error %d; want %v, %v, error %d", s, columns, i, k, least, most, e, a, b, wantE)
	}
}

// plus tells whether no part is the nought below nought.
func plus(l ...complex128) bool {
	return !slices.ContainsFunc(l, func(c complex128) bool {
		return real(c) == 0 && math.Signbit(real(c)) || imag(c) == 0 && math.Signbit(imag(c))
	})
}

// P17.1: the chapter's examples.
func TestExamples(t *testing.T) {
	if l, e := caret.Places("ab\ncd", 2); e != api.OK || !slices.Equal(l, []complex128{0, 1, 2, 1i, 1 + 1i, 2 + 1i}) {
		t.Error("Places of two full lines:", l, e)
	}
	if l, e := caret.Places("abc", 2); e != api.OK || !slices.Equal(l, []complex128{0, 1, 1i, 1 + 1i}) {
		t.Error("Places of a line that wraps:", l, e)
	}
	if i, e := caret.At("abc", 2, 9); i != 1 || e != api.OK {
		t.Error("At right of a line:", i, e)
	}
}

// P17.1: a rune's width, at its edges and of all runes.
func TestWidth(t *testing.T) {
	for _, c := range []struct {
		c    rune
		want int
	}{
		{10, 0}, {9, 1}, {11, 1}, {13, 1}, {0, 1}, {'a', 1}, {0x10ff, 1}, {0x1100, 2}, {0x1101, 2}, {0x4e2d, 2}, {0xd800, 2},
		{0xfffd, 2}, {0x10ffff, 2}, {0x110000, 2}, {-1, 1}, {-10, 1}, {-0x1100, 1}, {math.MaxInt32, 2}, {math.MinInt32, 1},
	} {
		if got := caret.Width(c.c); got != c.want {
			t.Errorf("Width(%#x): %d, want %d", c.c, got, c.want)
		}
	}
	for c := rune(-0x3000); c <= 0x110010; c++ {
		if got := caret.Width(c); got != width(c) {
			t.Fatalf("Width(%#x): %d", c, got)
		}
	}
}

// P17.1: pages told by hand: what wraps and what does not, line's ends at a full line's end, runes that are none.
func TestPlaces(t *testing.T) {
	for _, c := range []struct {
		s       string
		columns int
		want    []complex128
	}{
		{"", 2, []complex128{0}},
		{"", 200, []complex128{0}},
		{"\n", 2, []complex128{0, 1i}},
		{"\n\n", 9, []complex128{0, 1i, 2i}},
		{"ab", 2, []complex128{0, 1, 2}},
		{"ab\n", 2, []complex128{0, 1, 2, 1i}},
		{"ab\n\nc", 2, []complex128{0, 1, 2, 1i, 2i, 1 + 2i}},
		{"abc\n", 2, []complex128{0, 1, 1i, 1 + 1i, 2i}},
		{"abcde", 2, []complex128{0, 1, 1i, 1 + 1i, 2i, 1 + 2i}},
		{"\u4e2d", 2, []complex128{0, 2}},
		{"\u4e2d\n", 2, []complex128{0, 2, 1i}},
		{"a\u4e2db", 2, []complex128{0, 1i, 2i, 1 + 2i}},
		{"a\u4e2db", 3, []complex128{0, 1, 1i, 1 + 1i}},
		{"\u4e2d\u4e2d", 3, []complex128{0, 1i, 2 + 1i}},
		{"\u4e2d\u4e2d", 4, []complex128{0, 2, 4}},
		{"\u4e2d\u4e2da", 4, []complex128{0, 2, 1i, 1 + 1i}},
		{"\u10ff\u1100", 2, []complex128{0, 1i, 2 + 1i}},
		{"\xff\xffa", 4, []complex128{0, 2, 1i, 1 + 1i}}, // two runes that are none: each U+FFFD, of two columns
		{"\xe4\xb8", 3, []complex128{0, 1i, 2 + 1i}},     // two bytes of a rune of three: two runes, too
		{"\r\n\ta", 2, []complex128{0, 1, 1i, 1 + 1i, 2 + 1i}},
	} {
		got, e := caret.Places(c.s, c.columns)
		if e != api.OK || !slices.Equal(got, c.want) {
			t.Errorf("Places(%q, %d): %v, error %d; want %v", c.s, c.columns, got, e, c.want)
		}
		if again := page(c.s, c.columns); !slices.Equal(again, c.want) {
			t.Errorf("the model of %q: %v", c.s, again)
		}
	}
}

// P17.1: all texts of up to six pieces, on the narrowest pages; long ones on pages of all breadths.
func TestPlacesOfMany(t *testing.T) {
	for _, s := range texts(6, "a", "\n", "\u4e2d", "\xff") {
		for columns := 2; columns <= 5; columns++ {
			if l := checkPlaces(t, s, columns); !plus(l...) {
				t.Fatalf("Places(%q, %d): a nought below nought", s, columns)
			}
		}
	}
	r := rand.New(rand.NewPCG(17, 1))
	for columns := narrowest; columns <= broadest; columns++ {
		for range 20 {
			checkPlaces(t, chance(r, 700), columns)
		}
		checkPlaces(t, strings.Repeat("a", columns), columns)
		checkPlaces(t, strings.Repeat("a", columns+1), columns)
		checkPlaces(t, strings.Repeat("a", columns-1)+"\u4e2d", columns)
		checkPlaces(t, strings.Repeat("a", columns-2)+"\u4e2d\n", columns)
		checkPlaces(t, strings.Repeat("a", columns)+"\n", columns)
	}
	checkPlaces(t, strings.Repeat("a", api.MaxBytes), 2)
	checkPlaces(t, strings.Repeat("\n", api.MaxBytes), 200)
}

// P17.2: a place between lines, between columns, far above, below, left and right; places told by hand.
func TestAt(t *testing.T) {
	// On a page of three columns "ab\ncdef\n\n\u4e2dg\u4e2d" is "ab", "cde", "f", "", "\u4e2dg", "\u4e2d".
	s := "ab\ncdef\n\n\u4e2dg\u4e2d"
	most, least := math.MaxFloat64, math.SmallestNonzeroFloat64
	for _, c := range []struct {
		place complex128
		want  int
	}{
		{0, 0}, {1, 1}, {2, 2}, {3, 2}, {0.5, 0}, {1.99, 1}, {complex(2, least), 2}, {complex(-least, 0), 0}, {-1, 0}, {complex(most, 0), 2},
		{-1i, 0}, {1 - 1i, 1}, {9 - 9i, 2}, {complex(1, -most), 1}, {-9 - 9i, 0}, {2 + 0.99i, 2},
		{1i, 3}, {-5 + 1i, 3}, {1 + 1i, 4}, {2 + 1.5i, 5}, {3 + 1i, 5}, {9 + 1i, 5}, // "cde" wraps: its end's caret stands a line lower
		{2i, 6}, {0.9 + 2i, 6}, {1 + 2i, 7}, {2 + 2i, 7},
		{3i, 8}, {5 + 3i, 8}, {-5 + 3i, 8},
		{4i, 9}, {1 + 4i, 9}, {2 + 4i, 10}, {3 + 4i, 10},
		{5i, 11}, {1.9 + 5i, 11}, {2 + 5i, 12}, {99 + 5i, 12}, {-1 + 5i, 11},
		{6i, 11}, {2 + 77i, 12}, {complex(most, most), 12}, {complex(-most, most), 11}, {complex(most, -most), 2},
		{complex(math.Copysign(0, -1), math.Copysign(0, -1)), 0}, {complex(math.Copysign(0, -1), 1), 3}, {complex(1, math.Copysign(0, -1)), 1},
	} {
		if got, e := caret.At(s, 3, c.place); got != c.want || e != api.OK {
			t.Errorf("At %v: %d, error %d; want %d", c.place, got, e, c.want)
		}
		checkAt(t, s, 3, c.place)
	}
	for _, place := range []complex128{0, 5, -5, 5i, -5i, 3 + 3i} {
		if got, e := caret.At("", 2, place); got != 0 || e != api.OK {
			t.Errorf("At %v of no text: %d, error %d", place, got, e)
		}
	}
}

// P17.2: all places around the page of each text of up to five pieces, halves too.
func TestAtOfMany(t *testing.T) {
	for _, s := range texts(5, "a", "\n", "\u4e2d") {
		for columns := 2; columns <= 4; columns++ {
			for x := -1.0; x <= float64(columns)+1; x += 0.5 {
				for y := -1.0; y <= 6; y += 0.5 {
					checkAt(t, s, columns, complex(x, y))
				}
			}
		}
	}
	r := rand.New(rand.NewPCG(17, 2))
	for range 3000 {
		columns := narrowest + r.IntN(broadest-narrowest+1)
		s := chance(r, 300)
		checkAt(t, s, columns, complex(r.Float64()*float64(columns+2)-1, r.Float64()*60-1))
	}
}

// P17.2: a place with a part that is no number, or infinite, is refused, whatever the other part and the text.
func TestAtNowhere(t *testing.T) {
	parts := []float64{0, 1, -1, math.MaxFloat64, -math.MaxFloat64, math.NaN(), math.Inf(1), math.Inf(-1)}
	for _, s := range []string{"", "a", "abc\n\u4e2d"} {
		for _, x := range parts {
			for _, y := range parts {
				place := complex(x, y)
				checkAt(t, s, 2, place)
				if i, e := caret.At(s, 2, place); !finite(place) && (i != 0 || e != api.ErrArg) {
					t.Errorf("At(%q, 2, %v): %d, error %d", s, place, i, e)
				}
			}
		}
	}
}

// P17.2: a caret moved: up and down, off the page, by nothing; from none; by what is no way, and into what is no place.
func TestMove(t *testing.T) {
	huge := math.MaxFloat64
	for _, c := range []struct {
		s       string
		columns int
		from    int
		by      complex128
		want    int
		e       api.Errno
	}{
		{"abc", 2, 3, -1i, 1, api.OK},
		{"abc", 2, 3, 0, 3, api.OK},
		{"abc", 2, 0, 1i, 2, api.OK},
		{"abc", 2, 1, 1i, 3, api.OK},
		{"abc", 2, 0, -1, 0, api.OK},
		{"abc", 2, 2, -1, 2, api.OK}, // it does not go up to the line ahead
		{"abc", 2, 1, 1, 1, api.OK},
		{"abc", 2, 3, 5 + 5i, 3, api.OK},
		{"abc", 2, 4, 0, 0, api.ErrRange},
		{"abc", 2, -1, 0, 0, api.ErrRange},
		{"abc", 2, math.MaxInt, 0, 0, api.ErrRange},
		{"abc", 2, math.MinInt, 0, 0, api.ErrRange},
		{"", 2, 0, 7 + 7i, 0, api.OK},
		{"", 2, 1, 0, 0, api.ErrRange},
		{"\u4e2d", 2, 1, 0, 1, api.OK},
		{"\u4e2d", 2, 2, 0, 0, api.ErrRange}, // a rune, of three bytes and two columns, has two carets
		{"abc\ndefg", 9, 3, 1i, 7, api.OK},
		{"abc\ndefg", 9, 8, -1i, 3, api.OK},
		{"abc\ndefg", 9, 8, -0.5i, 3, api.OK},
		{"abc\ndefg", 9, 8, -0.5, 7, api.OK},
		{"abc", 2, 1, complex(math.NaN(), 0), 0, api.ErrArg},
		{"abc", 2, 1, complex(0, math.NaN()), 0, api.ErrArg},
		{"abc", 2, 1, complex(math.Inf(1), 0), 0, api.ErrArg},
		{"abc", 2, 1, complex(0, math.Inf(-1)), 0, api.ErrArg},
		{"abc", 2, 4, complex(math.NaN(), 0), 0, api.ErrRange},
		{"abc", 2, -1, complex(0, math.Inf(1)), 0, api.ErrRange},
		{"abc", 2, 3, complex(huge, huge), 3, api.OK}, // the sum is no greater
		{"abc", 2, 3, complex(huge, -huge), 1, api.OK},
		{"abc", 1, 0, complex(math.NaN(), 0), 0, api.ErrRange},
	} {
		if got, e := caret.Move(c.s, c.columns, c.from, c.by); got != c.want || e != c.e {
			t.Errorf("Move(%q, %d, %d, %v): %d, error %d; want %d, error %d", c.s, c.columns, c.from, c.by, got, e, c.want, c.e)
		}
		checkMove(t, c.s, c.columns, c.from, c.by)
	}
	for _, s := range texts(4, "a", "\n", "\u4e2d") {
		for i := -1; i <= 6; i++ {
			for x := -3.0; x <= 3; x += 0.5 {
				for y := -3.0; y <= 3; y += 0.5 {
					checkMove(t, s, 2, i, complex(x, y))
					checkMove(t, s, 3, i, complex(x, y))
				}
			}
		}
	}
}

// P17.2: boxes of one caret, of a part of a line, of several lines; of none.
func TestBox(t *testing.T) {
	for _, c := range []struct {
		s           string
		columns     int
		i, k        int
		least, most complex128
		e           api.Errno
	}{
		{"ab\ncd", 9, 1, 4, 0, 2 + 1i, api.OK},
		{"ab\ncd", 9, 0, 0, 0, 0, api.OK},
		{"ab\ncd", 9, 1, 1, 1, 1, api.OK},
		{"ab\ncd", 9, 5, 5, 2 + 1i, 2 + 1i, api.OK},
		{"ab\ncd", 9, 4, 5, 1 + 1i, 2 + 1i, api.OK},
		{"ab\ncd", 9, 2, 3, 0, 2 + 1i, api.OK},
		{"ab\ncd", 9, 0, 5, 0, 2 + 1i, api.OK},
		{"ab\n\u4e2dc\nd", 9, 4, 6, 1i, 3 + 2i, api.OK},
		{"abc", 2, 1, 2, 0, 1 + 1i, api.OK},
		{"", 2, 0, 0, 0, 0, api.OK},
		{"", 2, 0, 1, 0, 0, api.ErrRange},
		{"ab", 9, 2, 1, 0, 0, api.ErrRange},
		{"ab", 9, -1, 1, 0, 0, api.ErrRange},
		{"ab", 9, -2, -1, 0, 0, api.ErrRange},
		{"ab", 9, 1, 3, 0, 0, api.ErrRange},
		{"ab", 9, 3, 3, 0, 0, api.ErrRange},
		{"ab", 9, 2, 2, 2, 2, api.OK},
		{"ab", 9, 0, math.MaxInt, 0, 0, api.ErrRange},
		{"ab", 9, math.MinInt, 1, 0, 0, api.ErrRange},
		{"ab", 9, math.MaxInt, math.MinInt, 0, 0, api.ErrRange},
	} {
		least, most, e := caret.Box(c.s, c.columns, c.i, c.k)
		if least != c.least || most != c.most || e != c.e {
			t.Errorf("Box(%q, %d, %d, %d): %v, %v, error %d; want %v, %v, error %d", c.s, c.columns, c.i, c.k, least, most, e, c.least, c.most, c.e)
		}
	}
	for _, s := range texts(5, "a", "\n", "\u4e2d") {
		for i := -1; i <= 7; i++ {
			for k := -1; k <= 7; k++ {
				checkBox(t, s, 2, i, k)
				checkBox(t, s, 3, i, k)
				if a, b, _ := caret.Box(s, 3, i, k); !plus(a, b) {
					t.Fatalf("Box(%q, 3, %d, %d): a nought below nought", s, i, k)
				}
			}
		}
	}
}

// P17.1, P17.2: pages that are too narrow or too broad are refused ahead of all else; the narrowest and the broadest are not.
func TestColumns(t *testing.T) {
	nowhere := complex(math.NaN(), math.Inf(1))
	for _, columns := range wrongColumns {
		for _, s := range []string{"", "abc", "\n\u4e2d\xff"} {
			if l, e := caret.Places(s, columns); len(l) != 0 || e != api.ErrRange {
				t.Errorf("Places(%q, %d): %v, error %d", s, columns, l, e)
			}
			for _, place := range []complex128{0, 1i, nowhere} {
				if i, e := caret.At(s, columns, place); i != 0 || e != api.ErrRange {
					t.Errorf("At(%q, %d, %v): %d, error %d", s, columns, place, i, e)
				}
				for _, from := range []int{-1, 0, 1, 9} {
					if i, e := caret.Move(s, columns, from, place); i != 0 || e != api.ErrRange {
						t.Errorf("Move(%q, %d, %d, %v): %d, error %d", s, columns, from, place, i, e)
					}
				}
			}
			for _, from := range []int{-1, 0, 1, 9} {
				if a, b, e := caret.Box(s, columns, from, 1); a != 0 || b != 0 || e != api.ErrRange {
					t.Errorf("Box(%q, %d, %d, 1): %v, %v, error %d", s, columns, from, a, b, e)
				}
			}
		}
	}
	for _, columns := range []int{narrowest, broadest} {
		checkPlaces(t, "abc", columns)
		checkAt(t, "abc", columns, 9)
		checkMove(t, "abc", columns, 1, 1i)
		checkBox(t, "abc", columns, 1, 3)
		if _, e := caret.At("abc", columns, 9); e != api.OK {
			t.Errorf("At on %d columns: error %d", columns, e)
		}
		if _, e := caret.Move("abc", columns, 1, 1i); e != api.OK {
			t.Errorf("Move on %d columns: error %d", columns, e)
		}
		if _, _, e := caret.Box("abc", columns, 1, 3); e != api.OK {
			t.Errorf("Box on %d columns: error %d", columns, e)
		}
	}
}

// P17.3: At of a caret's place is the last one that stands there, and carets never go back.
// P17.4: no column is more than the columns, and no line is without a caret.
func TestCaretsRise(t *testing.T) {
	r := rand.New(rand.NewPCG(17, 3))
	all := texts(5, "a", "\n", "\u4e2d", "\xff")
	for range 300 {
		all = append(all, chance(r, 60))
	}
	for k, s := range all {
		columns := 2 + k%4
		l, e := caret.Places(s, columns)
		if n := len([]rune(s)); e != api.OK || len(l) != n+1 || l[0] != 0 {
			t.Fatalf("Places(%q, %d): %v, error %d", s, columns, l, e)
		}
		for i, place := range l {
			last := i
			for n := range l {
				if l[n] == place {
					last = n
				}
			}
			if got, e := caret.At(s, columns, place); got != last || e != api.OK {
				t.Fatalf("At(%q, %d, %v): %d, error %d; want %d", s, columns, place, got, e, last)
			}
			if real(place) < 0 || real(place) > float64(columns) {
				t.Fatalf("Places(%q, %d): caret %d is off the page: %v", s, columns, i, place)
			}
			if i == 0 {
				continue
			}
			down, across := imag(place)-imag(l[i-1]), real(place)-real(l[i-1])
			if down != 0 && down != 1 || down == 0 && across <= 0 {
				t.Fatalf("Places(%q, %d): caret %d goes back, or leaves a line out: %v", s, columns, i, l)
			}
		}
	}
}

// P17.1: each answer is a list of its own.
func TestMemory(t *testing.T) {
	s := "ab\ncd"
	l, _ := caret.Places(s, 2)
	other, _ := caret.Places(s, 2)
	want := slices.Clone(l)
	for i := range other[:cap(other)] {
		other[:cap(other)][i] = 99
	}
	if !slices.Equal(l, want) {
		t.Error("two answers share a list:", l)
	}
	checkPlaces(t, s, 2)
}
