package marks_test

import (
	"math"
	"math/rand/v2"
	"slices"
	"testing"

	"sealwax/api"
	"sealwax/fugue"
	"sealwax/marks"
)

const (
	top   = 1 << 40 // the greatest number, by the document's words
	room  = 512     // marks of a book
	names = 4
)

// none is the zero ID, whose anchors are the text's ends.
var none api.ID

func id(author, count int) api.ID { return api.ID{Author: author, Count: count} }

func ahead(i api.ID) api.Anchor  { return api.Anchor{ID: i} }
func behind(i api.ID) api.Anchor { return api.Anchor{ID: i, Behind: true} }

// text is a text of some runes, the elements 0.1 to 0.n.
func text(runes string) *fugue.Tree {
	x, i := fugue.New(), 0
	for _, c := range runes {
		x.Add(api.Insert{ID: id(0, i+1), Parent: id(0, i), Right: true, Rune: c})
		i++
	}
	return x
}

// put puts an element into a text, ahead of the i-th that is not dropped.
func put(t *testing.T, x *fugue.Tree, i int, a api.ID, c rune) {
	t.Helper()
	parent, side, _ := x.Plan(i)
	if e := x.Add(api.Insert{ID: a, Parent: parent, Right: side, Rune: c}); e != api.OK {
		t.Fatalf("%v at %d: error %d", a, i, e)
	}
}

// model is marks, as they were added.
type model []api.Mark

func element(i api.ID) bool {
	return 0 <= i.Author && i.Author <= 4 && 1 <= i.Count && i.Count <= top
}

func right(m api.Mark) bool {
	switch {
	case m.Clock < 1, m.Clock > top, m.Author < 0, m.Author > 4, m.Name < 1, m.Name > names, m.Value < 0, m.Value > top:
		return false
	}
	return (m.From.ID == none || element(m.From.ID)) && (m.To.ID == none || element(m.To.ID))
}

func (l model) has(clock, author int) bool {
	return slices.ContainsFunc(l, func(m api.Mark) bool { return m.Clock == clock && m.Author == author })
}

func (l *model) add(m api.Mark) api.Errno {
	switch {
	case !right(m):
		return api.ErrArg
	case l.has(m.Clock, m.Author):
		return api.ErrThere
	case len(*l) >= room:
		return api.ErrFull
	}
	*l = append(slices.Clone(*l), m)
	return api.OK
}

func newer(a, b api.Mark) bool {
	return a.Clock > b.Clock || a.Clock == b.Clock && a.Author > b.Author
}

// list is all marks: each time the oldest one of those that are left.
func (l model) list() []api.Mark {
	var out []api.Mark
	for left := slices.Clone(l); len(left) > 0; {
		k := 0
		for i, m := range left {
			if newer(left[k], m) {
				k = i
			}
		}
		out = append(out, left[k])
		left = slices.Delete(left, k, k+1)
	}
	return out
}

func (l model) last() int {
	out := 0
	for _, m := range l {
		out = max(out, m.Clock)
	}
	return out
}

// spot is a place as a number: the k-th element stands at 4k + 2, and -1 is no place.
func spot(l []api.Node, a api.Anchor) int {
	if a.ID == none {
		if a.Behind {
			return 0
		}
		return 4*len(l) + 4
	}
	k := slices.IndexFunc(l, func(n api.Node) bool { return n.ID == a.ID })
	switch {
	case k < 0:
		return -1
	case a.Behind:
		return 4*k + 3
	}
	return 4*k + 1
}

// styles is the style of each element: of each name the newest mark that covers it is sought.
func (l model) styles(nodes []api.Node) []api.Style {
	type stretch struct {
		from, to int
		api.Mark
	}
	var known []stretch
	for _, m := range l {
		if from, to := spot(nodes, m.From), spot(nodes, m.To); from >= 0 && to >= 0 {
			known = append(known, stretch{from, to, m})
		}
	}
	var out []api.Style
	for k := range nodes {
		var style api.Style
		var newest [names + 1]api.Mark // the zero mark is older than all
		for _, s := range known {
			if s.from < 4*k+2 && 4*k+2 < s.to && newer(s.Mark, newest[s.Name]) {
				newest[s.Name] = s.Mark
			}
		}
		for name := 1; name <= names; name++ {
			style[name] = newest[name].Value
		}
		out = append(out, style)
	}
	return out
}

func (l model) runs(nodes []api.Node) []api.Run {
	var out []api.Run
	for k, s := range l.styles(nodes) {
		switch n := len(out); {
		case nodes[k].Gone:
		case n > 0 && out[n-1].Style == s:
			out[n-1].Text += string(nodes[k].Rune)
		default:
			out = append(out, api.Run{Text: string(nodes[k].Rune), Style: s})
		}
	}
	return out
}

// looks holds what a book tells of a text against its model.
func looks(t *testing.T, b *marks.Book, l model, x *fugue.Tree, what ...any) {
	t.Helper()
	nodes := x.Nodes()
	if got, want := b.Styles(x), l.styles(nodes); !slices.Equal(got, want) {
		t.Fatalf("%v: Styles: %.300v, want %.300v", what, got, want)
	}
	got, want := b.Runs(x), l.runs(nodes)
	if !slices.Equal(got, want) {
		t.Fatalf("%v: Runs: %.300v, want %.300v", what, got, want)
	}
	whole := ""
	for i, r := range got {
		whole += r.Text
		if r.Text == "" || i > 0 && got[i-1].Style == r.Style {
			t.Fatalf("%v: run %d: %.300v", what, i, got)
		}
	}
	if whole != x.Text() {
		t.Fatalf("%v: the runs' texts: %.200q, want %.200q", what, whole, x.Text())
	}
}

// holds holds what a book tells of its marks against its model.
func holds(t *testing.T, b *marks.Book, l model, what ...any) {
	t.Helper()
	if got, want := b.List(), l.list(); !slices.Equal(got, want) {
		t.Fatalf("%v: List: %.300v, want %.300v", what, got, want)
	}
	if got, want := b.Last(), l.last(); got != want {
		t.Fatalf("%v: Last: %d, want %d", what, got, want)
	}
	for _, m := range l {
		for _, clock := range []int{m.Clock - 1, m.Clock, m.Clock + 1, -m.Clock} {
			for author := -1; author <= 5; author++ {
				if got, want := b.Has(clock, author), l.has(clock, author); got != want {
					t.Fatalf("%v: Has of %d, %d: %t, want %t", what, clock, author, got, want)
				}
			}
		}
	}
}

// shows holds the runs of a text against those worked out by hand.
func shows(t *testing.T, b *marks.Book, x *fugue.Tree, want ...api.Run) {
	t.Helper()
	if got := b.Runs(x); !slices.Equal(got, want) {
		t.Errorf("Runs: %v, want %v", got, want)
	}
}

// plain is a run without styles, and named one with a value of one name.
func plain(s string) api.Run { return api.Run{Text: s} }

func named(s string, name, value int) api.Run {
	r := plain(s)
	r.Style[name] = value
	return r
}

// made is a book of some marks, all of which may be.
func made(t *testing.T, l ...api.Mark) (*marks.Book, model) {
	t.Helper()
	b, m := marks.New(), model(nil)
	for _, a := range l {
		if e := b.Add(a); e != api.OK || m.add(a) != api.OK {
			t.Fatalf("Add of %v: error %d", a, e)
		}
	}
	return b, m
}

// growing is a text of n elements out of chance, of which some are dropped.
func growing(t *testing.T, r *rand.Rand, n int) *fugue.Tree {
	t.Helper()
	x := fugue.New()
	for i := range n {
		put(t, x, r.IntN(x.Len()+1), id(r.IntN(5), i+1), rune('a'+i%26))
		if r.IntN(4) == 0 {
			gone, _ := x.At(r.IntN(x.Len()))
			x.Drop(gone)
		}
	}
	return x
}

// anchors are both anchors of the ends, of each element, and of some that are not there.
func anchors(x *fugue.Tree) []api.Anchor {
	ids := []api.ID{none, id(4, top), id(0, top)}
	for _, n := range x.Nodes() {
		ids = append(ids, n.ID)
	}
	var out []api.Anchor
	for _, i := range ids {
		out = append(out, ahead(i), behind(i))
	}
	return out
}

// chance is a mark out of chance, whose anchors are among some.
func chance(r *rand.Rand, l []api.Anchor, clocks int) api.Mark {
	return api.Mark{
		Clock: 1 + r.IntN(clocks), Author: r.IntN(5),
		From: l[r.IntN(len(l))], To: l[r.IntN(len(l))],
		Name: 1 + r.IntN(names), Value: r.IntN(3),
	}
}

// The document's example.
func TestExample(t *testing.T) {
	x, b := text("abc"), marks.New()
	if e := b.Add(api.Mark{Clock: 1, From: ahead(id(0, 1)), To: behind(id(0, 2)), Name: 1, Value: 7}); e != api.OK {
		t.Error("Add:", e)
	}
	shows(t, b, x, named("ab", 1, 7), plain("c"))
	if e := b.Add(api.Mark{Clock: 2, From: behind(id(0, 1)), Name: 1}); e != api.OK {
		t.Error("Add:", e)
	}
	shows(t, b, x, named("a", 1, 7), plain("bc"))
}

// P16.1, P16.2: of a book without marks.
func TestNew(t *testing.T) {
	b := marks.New()
	holds(t, b, nil, "New")
	for _, i := range []int{math.MinInt, -1, 0, 1, 2, 4, 5, top, math.MaxInt} {
		if b.Has(i, 0) || b.Has(0, i) || b.Has(i, i) || b.Has(1, i) {
			t.Errorf("a new book has %d", i)
		}
	}
	for _, s := range []string{"", "a", "abc"} {
		looks(t, b, nil, text(s), s)
	}
	shows(t, b, text("abc"), plain("abc"))
	if got := b.Styles(text("abc")); !slices.Equal(got, make([]api.Style, 3)) {
		t.Error("Styles:", got)
	}
	if e := marks.New().Add(api.Mark{Clock: 1, Name: 1}); e != api.OK || b.Has(1, 0) || marks.New().Has(1, 0) {
		t.Error("a book knows of another one:", e)
	}
}

// edges are numbers at the edges of all ranges, and far from them.
func edges() []int {
	return []int{math.MinInt, math.MinInt + 1, -top, -1 << 32, -2, -1, 0, 1, 2, 3, 4, 5, 6, room, room + 1, 1<<32 - 1, 1 << 32, 1<<32 + 1, top - 1, top, top + 1, 2 * top, math.MaxInt - 1, math.MaxInt}
}

// ends are a mark's anchors' IDs at the edges of all ranges.
func ends() []api.ID {
	var out []api.ID
	for _, author := range []int{math.MinInt, -1, 0, 1, 4, 5, 1 << 32, math.MaxInt} {
		for _, count := range []int{math.MinInt, -1, 0, 1, 2, top - 1, top, top + 1, 1 << 62, math.MaxInt} {
			out = append(out, id(author, count))
		}
	}
	return out
}

// try holds Right, and Add to a new book and to another one, against the document's words.
func try(t *testing.T, m api.Mark) {
	t.Helper()
	want := right(m)
	if got := marks.Right(m); got != want {
		t.Fatalf("Right of %v: %t, want %t", m, got, want)
	}
	for _, l := range []model{nil, {{Clock: 3, Author: 1, Name: 2}}} {
		b, l := made(t, l...)
		if e, want := b.Add(m), l.add(m); e != want {
			t.Fatalf("Add of %v: error %d, want %d", m, e, want)
		}
		holds(t, b, l, m)
	}
}

// P16.1: which marks may be: each part at its edges, the others being right; and two parts at theirs.
func TestRight(t *testing.T) {
	good := api.Mark{Clock: 7, Author: 2, From: ahead(id(1, 3)), To: behind(id(2, 9)), Name: 3, Value: 8}
	if !marks.Right(good) {
		t.Error("a good one")
	}
	parts := []func(m *api.Mark, n int){
		func(m *api.Mark, n int) { m.Clock = n },
		func(m *api.Mark, n int) { m.Author = n },
		func(m *api.Mark, n int) { m.Name = n },
		func(m *api.Mark, n int) { m.Value = n },
		func(m *api.Mark, n int) { m.From.ID.Author = n },
		func(m *api.Mark, n int) { m.From.ID.Count = n },
		func(m *api.Mark, n int) { m.To.ID.Author = n },
		func(m *api.Mark, n int) { m.To.ID.Count = n },
	}
	for i, one := range parts {
		for _, n := range edges() {
			m := good
			one(&m, n)
			try(t, m)
			for _, other := range parts[:i] {
				for _, k := range edges() {
					both := m
					other(&both, k)
					try(t, both)
				}
			}
		}
	}
}

// P16.1: which marks may be, worked out by hand.
func TestKnownRight(t *testing.T) {
	good := api.Mark{Clock: 1, Name: 1}
	for _, m := range []api.Mark{
		good,
		{Clock: top, Author: 4, Name: 4, Value: top, From: behind(id(4, top)), To: behind(id(0, 1))},
		{Clock: 1, Name: 1, From: behind(none), To: behind(none)},
		{Clock: 1, Name: 1, From: ahead(id(0, 2)), To: ahead(id(0, 1))},
	} {
		if !marks.Right(m) {
			t.Errorf("%v may be", m)
		}
	}
	for _, m := range []api.Mark{
		{}, {Name: 1}, {Clock: 1}, {Clock: -1, Name: 1}, {Clock: top + 1, Name: 1}, {Clock: 1, Name: 5}, {Clock: 1, Name: -1},
		{Clock: 1, Author: -1, Name: 1}, {Clock: 1, Author: 5, Name: 1},
		{Clock: 1, Name: 1, Value: -1}, {Clock: 1, Name: 1, Value: top + 1},
	} {
		if marks.Right(m) {
			t.Errorf("%v may not be", m)
		}
	}
	for _, i := range ends() {
		for _, there := range []bool{false, true} {
			a := api.Anchor{ID: i, Behind: there}
			want := i == none || element(i)
			for _, m := range []api.Mark{{Clock: 1, Name: 1, From: a}, {Clock: 1, Name: 1, To: a}, {Clock: 1, Name: 1, From: a, To: a}} {
				if marks.Right(m) != want {
					t.Errorf("%v: want %t", m, want)
				}
			}
		}
	}
}

// full is a book of as many marks as may be, of the clocks 1 to 103, five authors each.
func full(t *testing.T) (*marks.Book, model) {
	t.Helper()
	var l []api.Mark
	for i := range room {
		l = append(l, api.Mark{Clock: 1 + i/5, Author: i % 5, Name: 1 + i%4, Value: i})
	}
	return made(t, l...)
}

// P16.1: of all that may be wrong with a mark, one thing with the other, the first one is told, and nothing has changed.
func TestAddErrors(t *testing.T) {
	some, was := made(t, api.Mark{Clock: 2, Author: 1, Name: 1}, api.Mark{Clock: 2, Author: 3, Name: 2, Value: 5})
	most, whole := full(t)
	told := map[api.Errno]int{}
	for _, clock := range []int{-2, 0, 1, 2, 3, 103, 104, top, top + 1} {
		for author := -1; author <= 5; author++ {
			for _, name := range []int{0, 1, 5} {
				for _, value := range []int{-1, 0, top} {
					for _, i := range []api.ID{none, id(0, 1), id(1, 0)} {
						m := api.Mark{Clock: clock, Author: author, Name: name, Value: value, To: ahead(i)}
						b, l := some.Clone(), slices.Clone(was)
						if e, want := b.Add(m), l.add(m); e != want {
							t.Fatalf("Add of %v: error %d, want %d", m, e, want)
						}
						holds(t, b, l, m)
						e, want := most.Add(m), whole.add(m)
						if e != want || e == api.OK {
							t.Fatalf("Add of %v to a full book: error %d, want %d", m, e, want)
						}
						told[e]++
					}
				}
			}
		}
	}
	holds(t, most, whole, "full")
	for _, e := range []api.Errno{api.ErrArg, api.ErrThere, api.ErrFull} {
		if told[e] == 0 {
			t.Errorf("error %d was not told", e)
		}
	}
}

// P16.1: one of a Clock and an Author that is there is refused, whatever else it says, and the old one stays.
func TestThere(t *testing.T) {
	x := text("ab")
	b, l := made(t, api.Mark{Clock: 5, Author: 2, From: ahead(id(0, 1)), To: ahead(id(0, 2)), Name: 3, Value: 4})
	for _, m := range []api.Mark{
		{Clock: 5, Author: 2, From: ahead(id(0, 1)), To: ahead(id(0, 2)), Name: 3, Value: 4},
		{Clock: 5, Author: 2, From: ahead(id(0, 1)), Name: 3, Value: 9},
		{Clock: 5, Author: 2, From: behind(none), Name: 1, Value: 1},
	} {
		if e := b.Add(m); e != api.ErrThere {
			t.Errorf("Add of %v: error %d", m, e)
		}
		holds(t, b, l, m)
		shows(t, b, x, named("a", 3, 4), plain("b"))
	}
	for _, m := range []api.Mark{{Clock: 5, Author: 1, Name: 3}, {Clock: 5, Author: 3, Name: 3}, {Clock: 4, Author: 2, Name: 3}, {Clock: 6, Author: 2, Name: 3}} {
		if e := b.Add(m); e != api.OK || l.add(m) != api.OK {
			t.Errorf("Add of %v: error %d", m, e)
		}
		holds(t, b, l, m)
	}
}

// P16.1: as many marks as may be, and none more.
func TestFull(t *testing.T) {
	b, l := full(t)
	for _, y := range []*marks.Book{b, b.Clone()} {
		for range 2 {
			for _, m := range []api.Mark{{Clock: 104, Author: 4, Name: 1}, {Clock: 103, Author: 2, Name: 1}, {Clock: top, Name: 1}} {
				if e := y.Add(m); e != api.ErrFull || y.Has(m.Clock, m.Author) {
					t.Errorf("Add of %v to a full book: error %d", m, e)
				}
			}
			if e := y.Add(api.Mark{Clock: 103, Author: 1, Name: 1}); e != api.ErrThere {
				t.Error("what is there: error", e)
			}
			if e := y.Add(api.Mark{Clock: 104}); e != api.ErrArg {
				t.Error("what may not be: error", e)
			}
		}
		holds(t, y, l, "full")
	}
	b, l = marks.New(), nil
	for i := range room {
		m := api.Mark{Clock: top - i, Name: 1}
		if e := b.Add(m); e != api.OK || l.add(m) != api.OK {
			t.Fatal(i, e)
		}
	}
	if e := b.Add(api.Mark{Clock: 1, Name: 1}); e != api.ErrFull {
		t.Error("one more: error", e)
	}
	holds(t, b, l, "falling clocks")
}

// permutations gives all orders of n things.
func permutations(n int, do func([]int)) {
	var grow func(l, left []int)
	grow = func(l, left []int) {
		if len(left) == 0 {
			do(l)
		}
		for i, k := range left {
			grow(append(slices.Clone(l), k), slices.Concat(left[:i], left[i+1:]))
		}
	}
	left := make([]int, n)
	for i := range left {
		left[i] = i
	}
	grow(nil, left)
}

// P16.1: the list is the newer behind the older, in whatever order they came; Last is the newest one's clock.
func TestList(t *testing.T) {
	want := []api.Mark{
		{Clock: 1, Author: 4, Name: 1, Value: 3},
		{Clock: 2, Name: 4, From: behind(id(0, 3)), To: ahead(id(0, 1))},
		{Clock: 2, Author: 1, Name: 3, Value: top},
		{Clock: 2, Author: 4, Name: 2},
		{Clock: 10, Author: 2, Name: 1, From: ahead(id(4, top))},
		{Clock: top, Author: 0, Name: 1},
	}
	orders := 0
	permutations(len(want), func(order []int) {
		orders++
		b, last := marks.New(), 0
		for _, k := range order {
			if e := b.Add(want[k]); e != api.OK {
				t.Fatalf("%v: Add of %v: error %d", order, want[k], e)
			}
			last = max(last, want[k].Clock)
			if b.Last() != last {
				t.Fatalf("%v: Last: %d, want %d", order, b.Last(), last)
			}
		}
		if got := b.List(); !slices.Equal(got, want) {
			t.Fatalf("%v: List: %v, want %v", order, got, want)
		}
	})
	if orders != 720 {
		t.Error(orders, "orders")
	}
}

// P16.1: Has is asked what may be no mark's, too.
func TestHas(t *testing.T) {
	b, l := made(t, api.Mark{Clock: 1, Name: 1}, api.Mark{Clock: 1, Author: 4, Name: 1}, api.Mark{Clock: 5, Author: 2, Name: 2}, api.Mark{Clock: top, Author: 1, Name: 3}, api.Mark{Clock: top, Author: 4, Name: 3})
	there := 0
	for _, clock := range edges() {
		for _, author := range edges() {
			got := b.Has(clock, author)
			if got != l.has(clock, author) {
				t.Errorf("Has of %d, %d: %t", clock, author, got)
			}
			if got {
				there++
			}
		}
	}
	if there != len(l) {
		t.Errorf("it has %d, want %d", there, len(l))
	}
}

// P16.2: places, worked out by hand: what a mark covers of "abc", from one anchor up to another one.
func TestKnownPlaces(t *testing.T) {
	a, b, c, away := id(0, 1), id(0, 2), id(0, 3), id(1, 1)
	whole := text("abc")
	for _, m := range []struct {
		from, to api.Anchor
		covered  string
	}{
		{behind(none), ahead(none), "abc"},
		{ahead(none), behind(none), ""},
		{ahead(none), ahead(none), ""},
		{behind(none), behind(none), ""},
		{ahead(a), behind(c), "abc"},
		{ahead(a), ahead(none), "abc"},
		{behind(none), behind(c), "abc"},
		{behind(a), ahead(c), "b"},
		{ahead(b), behind(b), "b"},
		{ahead(b), ahead(c), "b"},
		{behind(a), behind(b), "b"},
		{ahead(a), ahead(b), "a"},
		{behind(none), ahead(b), "a"},
		{behind(none), behind(a), "a"},
		{behind(none), ahead(a), ""},
		{behind(b), ahead(none), "c"},
		{ahead(c), ahead(none), "c"},
		{behind(c), ahead(none), ""},
		{behind(b), ahead(b), ""},
		{ahead(b), ahead(b), ""},
		{behind(b), behind(b), ""},
		{behind(a), ahead(b), ""},
		{ahead(c), behind(a), ""},
		{behind(c), ahead(a), ""},
		{ahead(c), behind(b), ""},
		{ahead(a), behind(none), ""},
		{ahead(none), behind(c), ""},
		{ahead(away), ahead(none), ""},
		{behind(away), ahead(none), ""},
		{behind(none), ahead(away), ""},
		{behind(none), behind(away), ""},
		{ahead(away), behind(away), ""},
		{ahead(a), behind(away), ""},
		{ahead(away), behind(c), ""},
	} {
		book, _ := made(t, api.Mark{Clock: 1, From: m.from, To: m.to, Name: 2, Value: 6})
		got := ""
		for i, s := range book.Styles(whole) {
			switch s {
			case api.Style{2: 6}:
				got += "abc"[i : i+1]
			case api.Style{}:
			default:
				t.Errorf("from %v to %v: style %v", m.from, m.to, s)
			}
		}
		if got != m.covered {
			t.Errorf("from %v to %v: %q, want %q", m.from, m.to, got, m.covered)
		}
	}
}

// P16.2: a mark from each anchor up to each other one, of texts of up to six elements, dropped ones too.
func TestPlaces(t *testing.T) {
	r := rand.New(rand.NewPCG(16, 1))
	for i := range 60 {
		x := growing(t, r, i%7)
		for _, from := range anchors(x) {
			for _, to := range anchors(x) {
				b, l := made(t, api.Mark{Clock: 1, From: from, To: to, Name: 1 + i%4, Value: 1})
				looks(t, b, l, x, x.Nodes(), from, to)
			}
		}
	}
}

// P16.2: two marks of one name, each over a stretch of its own: the newer one says, its 0 too, wherever it covers.
func TestTwo(t *testing.T) {
	x := text("abcd")
	x.Drop(id(0, 2))
	l := anchors(x)
	clocks := [][4]int{{1, 0, 2, 0}, {2, 0, 1, 0}, {1, 4, 2, 0}, {2, 0, 1, 4}, {3, 1, 3, 2}, {3, 2, 3, 1}, {top - 1, 4, top, 0}, {9, 1, 10, 1}}
	r := rand.New(rand.NewPCG(16, 2))
	for range 3000 {
		c := clocks[r.IntN(len(clocks))]
		one, two := chance(r, l, 1), chance(r, l, 1)
		one.Clock, one.Author, two.Clock, two.Author = c[0], c[1], c[2], c[3]
		two.Name = one.Name
		b, m := made(t, one, two)
		looks(t, b, m, x, one, two)
	}
}

// P16.2: which mark is the newest that covers, worked out by hand.
func TestKnownNewest(t *testing.T) {
	x := text("abc")
	whole := api.Mark{Clock: 5, Author: 2, From: behind(none), To: ahead(none), Name: 1, Value: 7}
	middle := api.Mark{From: ahead(id(0, 2)), To: behind(id(0, 2)), Name: 1, Value: 9}
	with := func(m api.Mark, clock, author int) api.Mark {
		m.Clock, m.Author = clock, author
		return m
	}
	valued := func(m api.Mark, value int) api.Mark {
		m.Value = value
		return m
	}
	called := func(m api.Mark, name int) api.Mark {
		m.Name = name
		return m
	}
	try := func(l []api.Mark, want ...api.Run) {
		t.Helper()
		for range 2 {
			b, _ := made(t, l...)
			shows(t, b, x, want...)
			slices.Reverse(l)
		}
	}
	try([]api.Mark{whole, with(middle, 6, 0)}, named("a", 1, 7), named("b", 1, 9), named("c", 1, 7))
	try([]api.Mark{whole, with(middle, 5, 3)}, named("a", 1, 7), named("b", 1, 9), named("c", 1, 7))
	try([]api.Mark{whole, with(middle, 5, 1)}, named("abc", 1, 7))
	try([]api.Mark{whole, with(middle, 4, 4)}, named("abc", 1, 7))
	try([]api.Mark{whole, with(valued(middle, 0), 6, 0)}, named("a", 1, 7), plain("b"), named("c", 1, 7))
	try([]api.Mark{whole, with(valued(middle, 7), 6, 0)}, named("abc", 1, 7))
	try([]api.Mark{whole, with(called(middle, 4), 1, 0)}, named("a", 1, 7), api.Run{Text: "b", Style: api.Style{1: 7, 4: 9}}, named("c", 1, 7))
	try([]api.Mark{whole, with(called(middle, 2), 6, 0)}, named("a", 1, 7), api.Run{Text: "b", Style: api.Style{1: 7, 2: 9}}, named("c", 1, 7))
	try([]api.Mark{whole, with(called(valued(middle, 0), 2), 6, 0)}, named("abc", 1, 7))
	try([]api.Mark{valued(whole, 0), with(middle, 4, 0)}, plain("abc"))
	try([]api.Mark{valued(whole, 0), with(middle, 6, 0)}, plain("a"), named("b", 1, 9), plain("c"))
	try([]api.Mark{valued(whole, top)}, named("abc", 1, top))
	try([]api.Mark{whole, {Clock: 6, From: ahead(id(1, 1)), Name: 1, Value: 3}}, named("abc", 1, 7))
	try([]api.Mark{whole, {Clock: 6, From: behind(id(0, 1)), To: behind(id(1, 1)), Name: 1, Value: 3}}, named("abc", 1, 7))
	// Three, one on the other, and all names at once.
	try([]api.Mark{whole, with(middle, 8, 0), {Clock: 7, From: ahead(id(0, 2)), Name: 1, Value: 1}}, named("a", 1, 7), named("b", 1, 9), named("c", 1, 1))
	try([]api.Mark{whole, with(called(whole, 2), 1, 0), with(called(whole, 3), 2, 0), with(called(whole, 4), top, 0)}, api.Run{Text: "abc", Style: api.Style{0, 7, 7, 7, 7}})
}

// P16.2: a mark counts as soon as what its anchors name is there, and what was dropped is.
func TestLater(t *testing.T) {
	x := text("ab")
	b, l := made(t,
		api.Mark{Clock: 1, From: ahead(id(0, 1)), To: behind(id(0, 3)), Name: 1, Value: 5},
		api.Mark{Clock: 2, From: ahead(id(1, 1)), To: behind(id(0, 2)), Name: 1, Value: 6})
	shows(t, b, x, plain("ab"))
	put(t, x, 2, id(0, 3), 'c')
	shows(t, b, x, named("abc", 1, 5))
	put(t, x, 1, id(1, 1), 'x')
	shows(t, b, x, named("a", 1, 5), named("xb", 1, 6), named("c", 1, 5))
	x.Drop(id(1, 1))
	shows(t, b, x, named("a", 1, 5), named("b", 1, 6), named("c", 1, 5))
	x.Drop(id(0, 2))
	shows(t, b, x, named("ac", 1, 5))
	x.Drop(id(0, 1))
	shows(t, b, x, named("c", 1, 5))
	if got, want := b.Styles(x), []api.Style{{1: 5}, {1: 6}, {1: 6}, {1: 5}}; !slices.Equal(got, want) {
		t.Errorf("Styles: %v, want %v", got, want)
	}
	x.Drop(id(0, 3))
	shows(t, b, x)
	looks(t, b, l, x, "all dropped")
}

// P16.2: what stands on both sides of dropped ones of another style is one run, and texts are UTF-8.
func TestKnownRuns(t *testing.T) {
	x := text("aé€\U0001f600\x00z")
	b, _ := made(t, api.Mark{Clock: 1, From: ahead(id(0, 2)), To: behind(id(0, 4)), Name: 3, Value: 2})
	shows(t, b, x, plain("a"), named("é€\U0001f600", 3, 2), plain("\x00z"))
	x.Drop(id(0, 3))
	shows(t, b, x, plain("a"), named("é\U0001f600", 3, 2), plain("\x00z"))
	x.Drop(id(0, 2))
	x.Drop(id(0, 4))
	shows(t, b, x, plain("a\x00z"))
	x.Drop(id(0, 1))
	shows(t, b, x, plain("\x00z"))
	if got, want := b.Styles(x), []api.Style{{}, {3: 2}, {3: 2}, {3: 2}, {}, {}}; !slices.Equal(got, want) {
		t.Errorf("Styles: %v, want %v", got, want)
	}
	// Styles are one only if all names' values are.
	for name := 1; name <= names; name++ {
		one, _ := made(t, api.Mark{Clock: 1, From: behind(none), To: ahead(id(0, 2)), Name: name, Value: 1})
		shows(t, one, text("ab"), named("a", name, 1), plain("b"))
	}
}

// P16.1 to P16.4: marks and texts out of chance, the marks among the elements as they come.
func TestChance(t *testing.T) {
	r := rand.New(rand.NewPCG(16, 3))
	for i := range 200 {
		x := growing(t, r, r.IntN(12))
		b, l := marks.New(), model(nil)
		for k := range r.IntN(30) {
			m := chance(r, anchors(x), 8)
			if e, want := b.Add(m), l.add(m); e != want {
				t.Fatalf("%d: Add of %v: error %d, want %d", i, m, e, want)
			}
			if r.IntN(3) == 0 {
				put(t, x, r.IntN(x.Len()+1), id(r.IntN(5), 100+k), 'x')
			}
			if x.Len() > 0 && r.IntN(5) == 0 {
				gone, _ := x.At(r.IntN(x.Len()))
				x.Drop(gone)
			}
			looks(t, b, l, x, i, k)
		}
		holds(t, b, l, i)
	}
}

// P16.2: as many marks over as many elements as may be.
func TestGreat(t *testing.T) {
	r := rand.New(rand.NewPCG(16, 4))
	x := fugue.New()
	var l []api.Anchor
	for i := range 4096 {
		a := id(i%5, i+1)
		parent := none
		if i > 0 {
			parent = id((i-1)%5, i)
		}
		if e := x.Add(api.Insert{ID: a, Parent: parent, Right: i == 0 || r.IntN(2) == 0, Rune: rune('a' + i%26)}); e != api.OK {
			t.Fatal(i, e)
		}
		l = append(l, ahead(a), behind(a))
	}
	b, m := marks.New(), model(nil)
	for len(m) < room {
		a := chance(r, l, top)
		if e := b.Add(a); e != m.add(a) {
			t.Fatalf("Add of %v: error %d", a, e)
		}
	}
	looks(t, b, m, x, "great")
	for i := 0; i < 4096; i += 3 {
		x.Drop(id(i%5, i+1))
	}
	looks(t, b, m, x, "a third of it dropped")
	b, m = marks.New(), nil
	for i := range room {
		a := api.Mark{Clock: i + 1, From: behind(none), To: ahead(none), Name: 1 + i%4, Value: i}
		if e := b.Add(a); e != m.add(a) {
			t.Fatalf("Add of %v: error %d", a, e)
		}
	}
	looks(t, b, m, x, "all over all")
	shows(t, b, x, api.Run{Text: x.Text(), Style: api.Style{0, 508, 509, 510, 511}})
}

// P16.3: in all orders of some marks, and some orders of many, the styles are the same.
func TestOrders(t *testing.T) {
	r := rand.New(rand.NewPCG(16, 5))
	for i := range 25 {
		x := growing(t, r, 1+r.IntN(8))
		var l model
		for len(l) < 5 {
			l.add(chance(r, anchors(x), 3))
		}
		permutations(len(l), func(order []int) {
			b := marks.New()
			for _, k := range order {
				b.Add(l[k])
			}
			looks(t, b, l, x, i, order)
			holds(t, b, l, i, order)
		})
	}
	for i := range 20 {
		x := growing(t, r, 60)
		var l model
		for len(l) < 200 {
			l.add(chance(r, anchors(x), 100))
		}
		want := l.styles(x.Nodes())
		for range 10 {
			b := marks.New()
			for _, k := range r.Perm(len(l)) {
				b.Add(l[k])
			}
			if got := b.Styles(x); !slices.Equal(got, want) {
				t.Fatalf("%d: Styles: %v, want %v", i, got, want)
			}
		}
		b, _ := made(t, l...)
		holds(t, b, l, i)
	}
}

// P16.5: what is put between two that one newest mark covers gets its value; wherever it is put, what was there keeps its style.
func TestBetween(t *testing.T) {
	r := rand.New(rand.NewPCG(16, 6))
	tried := 0
	for i := range 400 {
		x := growing(t, r, 2+r.IntN(10))
		l := model(nil)
		for range 1 + r.IntN(8) {
			l.add(chance(r, anchors(x), 9))
		}
		b, _ := made(t, l...)
		was := b.Styles(x)
		for at := range x.Len() + 1 {
			for _, a := range []api.ID{id(0, top-1), id(4, top-1)} {
				y := x.Clone()
				put(t, y, at, a, 'x')
				k := slices.IndexFunc(y.Nodes(), func(n api.Node) bool { return n.ID == a })
				now := b.Styles(y)
				if others := slices.Delete(slices.Clone(now), k, k+1); !slices.Equal(others, was) {
					t.Fatalf("%d: at %d: the others' styles: %v, want %v", i, at, others, was)
				}
				if k == 0 || k == len(now)-1 {
					continue
				}
				for name := 1; name <= names; name++ {
					if one, ok := newest(l, x, k-1, name); ok && one == must(newest(l, x, k, name)) {
						tried++
						if now[k][name] != one.Value {
							t.Fatalf("%d: at %d: name %d: %d, want %d", i, at, name, now[k][name], one.Value)
						}
					}
				}
			}
		}
	}
	if tried < 1000 {
		t.Error("tried", tried)
	}
}

// newest is the newest mark of a name that covers the k-th element of a text.
func newest(l model, x *fugue.Tree, k, name int) (api.Mark, bool) {
	nodes := x.Nodes()
	var out api.Mark
	for _, m := range l {
		from, to := spot(nodes, m.From), spot(nodes, m.To)
		if m.Name == name && from >= 0 && to >= 0 && from < 4*k+2 && 4*k+2 < to && newer(m, out) {
			out = m
		}
	}
	return out, out.Clock > 0
}

func must(m api.Mark, _ bool) api.Mark { return m }

// P16.5: what is put at a mark's ends: whether it is covered tells the side of the anchors.
func TestAtEnds(t *testing.T) {
	a, b, c := id(0, 1), id(0, 2), id(0, 3)
	for _, m := range []struct {
		from, to api.Anchor
		want     []string // what is covered, after an x was put ahead of the first, the second, .. and behind all
	}{
		{ahead(b), behind(b), []string{"b", "b", "b", "b"}},
		{behind(a), behind(b), []string{"b", "xb", "b", "b"}},
		{ahead(b), ahead(c), []string{"b", "b", "bx", "b"}},
		{behind(a), ahead(c), []string{"b", "xb", "bx", "b"}},
		{ahead(a), behind(c), []string{"abc", "axbc", "abxc", "abc"}},
		{behind(none), behind(c), []string{"xabc", "axbc", "abxc", "abc"}},
		{ahead(a), ahead(none), []string{"abc", "axbc", "abxc", "abcx"}},
		{behind(none), ahead(none), []string{"xabc", "axbc", "abxc", "abcx"}},
		{behind(a), ahead(b), []string{"", "x", "", ""}},
		{behind(none), ahead(a), []string{"x", "", "", ""}},
		{behind(c), ahead(none), []string{"", "", "", "x"}},
		{ahead(none), behind(none), []string{"", "", "", ""}},
		{ahead(none), ahead(none), []string{"", "", "", ""}},
		{behind(none), behind(none), []string{"", "", "", ""}},
	} {
		book, _ := made(t, api.Mark{Clock: 1, From: m.from, To: m.to, Name: 1, Value: 1})
		for at, want := range m.want {
			x := text("abc")
			put(t, x, at, id(3, 1), 'x')
			got := ""
			for i, s := range book.Styles(x) {
				if s[1] == 1 {
					got += string(x.Nodes()[i].Rune)
				}
			}
			if got != want {
				t.Errorf("from %v to %v: put at %d: %q, want %q", m.from, m.to, at, got, want)
			}
		}
	}
}

// P16.2: a clone is just so, and neither knows of the other.
func TestClone(t *testing.T) {
	r := rand.New(rand.NewPCG(16, 7))
	for i := range 150 {
		x := growing(t, r, r.IntN(8))
		b, l := marks.New(), model(nil)
		for range i % 20 {
			m := chance(r, anchors(x), 10)
			b.Add(m)
			l.add(m)
		}
		c, k := b.Clone(), slices.Clone(l)
		holds(t, c, k, i, "a clone")
		for n := range 30 {
			one, other := b, &l
			if n%2 == 1 {
				one, other = c, &k
			}
			m := chance(r, anchors(x), 20)
			if e, want := one.Add(m), other.add(m); e != want {
				t.Fatalf("%d: Add of %v: error %d, want %d", i, m, e, want)
			}
		}
		holds(t, b, l, i, "what was cloned")
		holds(t, c, k, i, "the clone")
		looks(t, b, l, x, i, "what was cloned")
		looks(t, c, k, x, i, "the clone")
		holds(t, c.Clone().Clone(), k, i, "the clone's clone's clone")
	}
}

// P16.2: of a nil book, and of a nil text; an object that New did not make makes no call panic, either.
func TestNil(t *testing.T) {
	var no *marks.Book
	var void *fugue.Tree
	for _, m := range []api.Mark{{}, {Clock: 1, Name: 1}, {Clock: -1, Author: 9, Name: 9, Value: -1}} {
		if e := no.Add(m); e != api.ErrNone {
			t.Errorf("Add of %v to nil: error %d", m, e)
		}
	}
	if no.Clone() != nil {
		t.Error("nil has a clone")
	}
	whole := api.Mark{Clock: 1, From: behind(none), To: ahead(none), Name: 1, Value: 1}
	some, l := made(t, whole)
	for _, b := range []*marks.Book{no, {}, new(marks.Book).Clone()} {
		holds(t, b, nil, "no book")
		for _, i := range edges() {
			if b.Has(i, 0) || b.Has(1, i) {
				t.Errorf("no book has %d", i)
			}
		}
		for _, x := range []*fugue.Tree{void, {}, fugue.New(), text("a"), text("abc")} {
			looks(t, b, nil, x, "no book")
		}
		shows(t, b, text("abc"), plain("abc"))
	}
	for _, x := range []*fugue.Tree{void, {}, fugue.New()} {
		looks(t, some, l, x, "no text")
		if len(some.Styles(x)) != 0 || len(some.Runs(x)) != 0 {
			t.Error("no text has styles, or runs")
		}
	}
	if e := new(marks.Book).Add(whole); e != api.OK && e != api.ErrNone {
		t.Error("Add to a book that New did not make: error", e)
	}
}

// spoil writes over a list, and over the room behind it.
func spoil[T any](l []T, by T) {
	l = l[:cap(l)]
	for i := range l {
		l[i] = by
	}
}

// Each answer is new memory: what becomes of it, or of the room behind it, neither the book nor the text nor another answer knows.
func TestMemory(t *testing.T) {
	r := rand.New(rand.NewPCG(16, 8))
	for size := range 20 {
		x := growing(t, r, size)
		nodes := x.Nodes()
		b, l := marks.New(), model(nil)
		for range size {
			m := chance(r, anchors(x), 50)
			b.Add(m)
			l.add(m)
		}
		c := b.Clone()
		list, styles, runs := b.List(), b.Styles(x), b.Runs(x)
		spoil(b.List(), api.Mark{Clock: 77, Name: 1, Value: 77})
		spoil(b.Styles(x), api.Style{9, 9, 9, 9, 9})
		spoil(b.Runs(x), api.Run{Text: "z"})
		if !slices.Equal(list, l.list()) || !slices.Equal(styles, l.styles(nodes)) || !slices.Equal(runs, l.runs(nodes)) {
			t.Fatal(size, "two answers share memory")
		}
		holds(t, b, l, size, "answers were changed")
		looks(t, b, l, x, size, "answers were changed")
		holds(t, c, l, size, "the clone")
		if !slices.Equal(x.Nodes(), nodes) {
			t.Fatal(size, "the text was changed")
		}
	}
}

// What asks changes nothing: the same is told twice, whatever is asked in between; and the same calls make the same book.
func TestAsking(t *testing.T) {
	var told [2][]api.Run
	for i := range told {
		r := rand.New(rand.NewPCG(16, 9))
		x := growing(t, r, 50)
		b, l := marks.New(), model(nil)
		for range 60 {
			m := chance(r, anchors(x), 30)
			b.Add(m)
			l.add(m)
		}
		for range 3 {
			holds(t, b, l, "asked")
			looks(t, b, l, x, "asked")
		}
		told[i] = b.Runs(x)
	}
	if !slices.Equal(told[0], told[1]) {
		t.Error("the same calls, and two books")
	}
}
