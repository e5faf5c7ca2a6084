package fugue_test

import (
	"cmp"
	"math"
	"math/rand/v2"
	"slices"
	"testing"

	"sealwax/api"
	"sealwax/fugue"
)

const (
	top  = 1 << 40 // the greatest count, by the document's words
	room = 4096    // elements of a text
)

func id(author, count int) api.ID { return api.ID{Author: author, Count: count} }

// right and left are elements below a parent; their rune tells their ID.
func right(i, parent api.ID) api.Insert {
	return api.Insert{ID: i, Parent: parent, Right: true, Rune: letter(i)}
}

func left(i, parent api.ID) api.Insert {
	return api.Insert{ID: i, Parent: parent, Rune: letter(i)}
}

func letter(i api.ID) rune { return rune('a' + (5*i.Count+i.Author)%1000) }

// place is a side of an element, or of the beginning.
type place struct {
	parent api.ID
	right  bool
}

// model is a text, as the document tells it.
type model struct {
	inserts []api.Insert // as they were added
	gone    map[api.ID]bool
}

func newModel() *model { return &model{gone: map[api.ID]bool{}} }

func (m *model) clone() *model {
	out := newModel()
	out.inserts = slices.Clone(m.inserts)
	for i := range m.gone {
		out.gone[i] = true
	}
	return out
}

func (m *model) has(i api.ID) bool {
	return slices.ContainsFunc(m.inserts, func(x api.Insert) bool { return x.ID == i })
}

func element(i api.ID) bool {
	return 0 <= i.Author && i.Author <= 4 && 1 <= i.Count && i.Count <= top
}

func (m *model) add(i api.Insert) api.Errno {
	none := api.ID{}
	switch {
	case !element(i.ID), i.Rune < 0, i.Rune > 0x10ffff, i.Rune >= 0xd800 && i.Rune <= 0xdfff, i.Parent == none && !i.Right:
		return api.ErrArg
	case m.has(i.ID):
		return api.ErrThere
	case i.Parent != none && !m.has(i.Parent):
		return api.ErrNone
	case len(m.inserts) >= room:
		return api.ErrFull
	}
	m.inserts = append(m.inserts, i)
	return api.OK
}

func (m *model) drop(i api.ID) api.Errno {
	switch {
	case !m.has(i):
		return api.ErrNone
	case m.gone[i]:
		return api.ErrThere
	}
	m.gone[i] = true
	return api.OK
}

// nodes is the order of the text: of each place all that hangs there, by rising IDs, each with its left ones ahead and its right ones behind.
func (m *model) nodes() []api.Node {
	at := map[place][]api.Insert{}
	for _, i := range m.inserts {
		at[place{i.Parent, i.Right}] = append(at[place{i.Parent, i.Right}], i)
	}
	var out []api.Node
	var below func(p place)
	below = func(p place) {
		slices.SortFunc(at[p], func(a, b api.Insert) int {
			return cmp.Or(cmp.Compare(a.ID.Author, b.ID.Author), cmp.Compare(a.ID.Count, b.ID.Count))
		})
		for _, i := range at[p] {
			below(place{i.ID, false})
			out = append(out, api.Node{ID: i.ID, Rune: i.Rune, Gone: m.gone[i.ID]})
			below(place{i.ID, true})
		}
	}
	below(place{right: true})
	return out
}

func shown(l []api.Node) []api.Node {
	return slices.DeleteFunc(slices.Clone(l), func(n api.Node) bool { return n.Gone })
}

func text(l []api.Node) string {
	var out []rune
	for _, n := range shown(l) {
		out = append(out, n.Rune)
	}
	return string(out)
}

// plan is below whom, and on which side, what is to stand ahead of the i-th hangs.
func (m *model) plan(i int) (api.ID, bool, api.Errno) {
	l := m.nodes()
	seen := shown(l)
	if i < 0 || i > len(seen) {
		return api.ID{}, false, api.ErrRange
	}
	ahead, next := api.ID{}, 0
	if i > 0 {
		ahead = seen[i-1].ID
		next = 1 + slices.IndexFunc(l, func(n api.Node) bool { return n.ID == ahead })
	}
	if !slices.ContainsFunc(m.inserts, func(x api.Insert) bool { return x.Right && x.Parent == ahead }) {
		return ahead, true, api.OK
	}
	return l[next].ID, false, api.OK
}

// all is what All gives, and whether the places rise from 0 on.
func all(t *fugue.Tree) ([]api.Node, bool) {
	var out []api.Node
	good := true
	for i, n := range t.All() {
		good = good && i == len(out)
		out = append(out, n)
	}
	return out, good
}

// looks holds the order of a text and what is told of it as a whole against what must be told.
func looks(t *testing.T, x *fugue.Tree, want []api.Node, what ...any) {
	t.Helper()
	if got := x.Nodes(); !slices.Equal(got, want) {
		t.Fatalf("%v: Nodes: %.200v, want %.200v", what, got, want)
	}
	if got, good := all(x); !good || !slices.Equal(got, want) {
		t.Fatalf("%v: All: %.200v, are the places right: %t, want %.200v", what, got, good, want)
	}
	if got := x.Text(); got != text(want) {
		t.Fatalf("%v: Text: %.200q, want %.200q", what, got, text(want))
	}
	if got := x.Len(); got != len(shown(want)) {
		t.Fatalf("%v: Len: %d, want %d", what, got, len(shown(want)))
	}
}

// holds holds all that a text tells against its model.
func holds(t *testing.T, x *fugue.Tree, m *model, what ...any) {
	t.Helper()
	l := m.nodes()
	looks(t, x, l, what...)
	seen := shown(l)
	for _, i := range places(len(seen)) {
		a, e := x.At(i)
		if i >= 0 && i < len(seen) {
			if a != seen[i].ID || e != api.OK {
				t.Fatalf("%v: At of %d: %v, error %d, want %v", what, i, a, e, seen[i].ID)
			}
		} else if a != (api.ID{}) || e != api.ErrRange {
			t.Fatalf("%v: At of %d: %v, error %d, want error %d", what, i, a, e, api.ErrRange)
		}
		p, side, e := x.Plan(i)
		if wantP, wantSide, wantE := m.plan(i); p != wantP || side != wantSide || e != wantE {
			t.Fatalf("%v: Plan of %d: %v, %t, error %d, want %v, %t, error %d", what, i, p, side, e, wantP, wantSide, wantE)
		}
	}
	for _, n := range l {
		if !x.Has(n.ID) {
			t.Fatalf("%v: it has no %v", what, n.ID)
		}
	}
}

// places are all places of a text of n elements, and others.
func places(n int) []int {
	out := []int{math.MinInt, math.MinInt + 1, -1 << 32, -2, -1}
	for i := range n + 3 {
		out = append(out, i)
	}
	return append(out, room, 1<<32, math.MaxInt-1, math.MaxInt)
}

// made is a text of some elements, each behind its parent.
func made(t *testing.T, l ...api.Insert) (*fugue.Tree, *model) {
	t.Helper()
	x, m := fugue.New(), newModel()
	for _, i := range l {
		if e := x.Add(i); e != api.OK || m.add(i) != api.OK {
			t.Fatalf("Add of %v: error %d", i, e)
		}
	}
	return x, m
}

// chance is a text of n elements out of chance, of which some are dropped.
func chance(t *testing.T, r *rand.Rand, n int) (*fugue.Tree, *model) {
	t.Helper()
	x, m := fugue.New(), newModel()
	for len(m.inserts) < n {
		i := right(id(r.IntN(5), 1+r.IntN(n+3)), api.ID{})
		if k := len(m.inserts); k > 0 && r.IntN(8) > 0 {
			i.Parent, i.Right = m.inserts[r.IntN(k)].ID, r.IntN(2) == 0
		}
		if e, want := x.Add(i), m.add(i); e != want {
			t.Fatalf("Add of %v: error %d, want %d", i, e, want)
		}
		if r.IntN(4) == 0 {
			i.ID = m.inserts[r.IntN(len(m.inserts))].ID
			if e, want := x.Drop(i.ID), m.drop(i.ID); e != want {
				t.Fatalf("Drop of %v: error %d, want %d", i.ID, e, want)
			}
		}
	}
	return x, m
}

// The document's example.
func TestExample(t *testing.T) {
	x, _ := made(t,
		api.Insert{ID: id(0, 1), Right: true, Rune: 'a'},
		api.Insert{ID: id(0, 2), Parent: id(0, 1), Right: true, Rune: 'b'})
	if x.Text() != "ab" {
		t.Error("Text:", x.Text())
	}
	if p, side, e := x.Plan(1); p != id(0, 2) || side || e != api.OK {
		t.Error("Plan:", p, side, e)
	}
	if e := x.Add(api.Insert{ID: id(1, 1), Parent: id(0, 2), Rune: 'x'}); e != api.OK || x.Text() != "axb" {
		t.Error("Add:", e, x.Text())
	}
	if e := x.Drop(id(0, 1)); e != api.OK || x.Text() != "xb" {
		t.Error("Drop:", e, x.Text())
	}
}

// P15.1: of a text without elements.
func TestNew(t *testing.T) {
	holds(t, fugue.New(), newModel(), "New")
	x := fugue.New()
	for _, i := range []api.ID{{}, id(0, 1), id(1, 0), id(-1, 1)} {
		if x.Has(i) || x.Drop(i) != api.ErrNone {
			t.Errorf("a new text has %v", i)
		}
	}
	if p, side, e := x.Plan(0); p != (api.ID{}) || !side || e != api.OK {
		t.Error("Plan of 0 of a new text:", p, side, e)
	}
	if e := fugue.New().Add(right(id(0, 1), api.ID{})); e != api.OK || x.Len() != 0 || x.Has(id(0, 1)) {
		t.Error("a text knows of another one:", e, x.Len())
	}
}

// P15.1: which IDs are an element's, and which runes may be.
func TestAddEdges(t *testing.T) {
	for _, author := range []int{math.MinInt, -5, -1, 0, 1, 2, 3, 4, 5, 6, 1 << 32, math.MaxInt} {
		for _, count := range []int{math.MinInt, -top, -1, 0, 1, 2, room, room + 1, 1 << 32, top - 1, top, top + 1, 2 * top, math.MaxInt} {
			x, m := fugue.New(), newModel()
			i := api.Insert{ID: id(author, count), Right: true, Rune: 'a'}
			if e, want := x.Add(i), m.add(i); e != want || (e == api.OK) != element(i.ID) {
				t.Errorf("Add of %v: error %d, want %d", i.ID, e, want)
			}
			if x.Has(i.ID) != element(i.ID) {
				t.Errorf("is %v there: %t", i.ID, x.Has(i.ID))
			}
			holds(t, x, m, i)
		}
	}
	for _, c := range []rune{math.MinInt32, -2, -1, 0, 1, 0x7f, 0x80, 0x7ff, 0x800, 0xd7fe, 0xd7ff, 0xd800, 0xd801, 0xdbff, 0xdc00, 0xdffe, 0xdfff, 0xe000, 0xe001, 0xfffd, 0xfffe, 0xffff, 0x10000, 0x10fffe, 0x10ffff, 0x110000, 0x110001, math.MaxInt32} {
		x, m := fugue.New(), newModel()
		i := api.Insert{ID: id(4, top), Right: true, Rune: c}
		if e, want := x.Add(i), m.add(i); e != want {
			t.Errorf("Add of rune %x: error %d, want %d", c, e, want)
		}
		holds(t, x, m, i)
	}
}

// P15.1: of all that may be wrong with an element, one thing with the other, the first one is told, and nothing has changed.
func TestAddErrors(t *testing.T) {
	start, was := made(t, right(id(0, 1), api.ID{}), right(id(0, 2), id(0, 1)), left(id(1, 1), id(0, 2)), right(id(4, top), api.ID{}))
	start.Drop(id(0, 1))
	was.drop(id(0, 1))
	full := start.Clone()
	for i := range room - 4 {
		full.Add(right(id(2, i+1), id(0, 2)))
	}
	ids := []api.ID{id(3, 3), id(0, 2), id(0, 1), {}, id(5, 1), id(-1, 1), id(3, 0), id(3, -1), id(3, top+1)}
	parents := []api.ID{{}, id(0, 2), id(0, 1), id(4, top), id(3, 3), id(0, 3), id(1, 0), id(0, -1), id(-1, 0), id(9, 9), id(0, math.MaxInt)}
	taken := 0
	for _, i := range ids {
		for _, parent := range parents {
			for _, c := range []rune{'x', -1, 0xdead, 0x110000} {
				for _, side := range []bool{true, false} {
					x, m := start.Clone(), was.clone()
					a := api.Insert{ID: i, Parent: parent, Right: side, Rune: c}
					e, want := x.Add(a), m.add(a)
					if e != want {
						t.Fatalf("Add of %v: error %d, want %d", a, e, want)
					}
					holds(t, x, m, a)
					if want == api.OK {
						taken++
						want = api.ErrFull
					}
					if e := full.Add(a); e != want || full.Len() != room-1 || full.Has(id(3, 3)) {
						t.Fatalf("Add of %v to a full text: error %d, want %d", a, e, want)
					}
				}
			}
		}
	}
	if taken != 7 {
		t.Errorf("%d were added, want 7", taken)
	}
}

// P15.1: as many elements as may be, dropped ones too, and none more.
func TestFull(t *testing.T) {
	for _, dropped := range []int{0, 1, 17, room} {
		x := fugue.New()
		for i := range room {
			if e := x.Add(right(id(i%5, i+1), api.ID{})); e != api.OK {
				t.Fatal(i, e)
			}
			if i < dropped {
				x.Drop(id(i%5, i+1))
			}
		}
		for range 2 {
			if e := x.Add(right(id(0, room+1), api.ID{})); e != api.ErrFull || x.Has(id(0, room+1)) {
				t.Errorf("%d dropped: one more: error %d", dropped, e)
			}
		}
		if x.Len() != room-dropped || len(x.Nodes()) != room {
			t.Errorf("%d dropped: Len %d, %d elements", dropped, x.Len(), len(x.Nodes()))
		}
		if e := x.Add(right(id(0, 1), api.ID{})); e != api.ErrThere {
			t.Errorf("%d dropped: what is there: error %d", dropped, e)
		}
		if e := x.Drop(id(0, room+1)); e != api.ErrNone {
			t.Errorf("%d dropped: Drop of what is not there: error %d", dropped, e)
		}
		if last := id((room-1)%5, room); dropped < room && (x.Drop(last) != api.OK || x.Len() != room-dropped-1) {
			t.Errorf("%d dropped: Drop of a full text's last one", dropped)
		}
		if e := x.Add(right(id(0, room+1), api.ID{})); e != api.ErrFull {
			t.Errorf("%d dropped, and one: one more: error %d", dropped, e)
		}
	}
}

// P15.1: an element is dropped once, and is still there.
func TestDrop(t *testing.T) {
	r := rand.New(rand.NewPCG(15, 1))
	for range 100 {
		x, m := chance(t, r, 1+r.IntN(12))
		for range 60 {
			i := id(r.IntN(7)-1, r.IntN(17)-1)
			if e, want := x.Drop(i), m.drop(i); e != want {
				t.Fatalf("Drop of %v: error %d, want %d", i, e, want)
			}
			if x.Has(i) != m.has(i) {
				t.Fatalf("is %v there: %t", i, x.Has(i))
			}
			holds(t, x, m, "Drop of", i)
		}
	}
	x, _ := made(t, right(id(0, 1), api.ID{}))
	for _, i := range []api.ID{{}, id(0, 2), id(1, 1), id(0, -1), id(-1, 1), id(5, 1), id(math.MinInt, math.MaxInt), id(math.MaxInt, math.MinInt)} {
		if e := x.Drop(i); e != api.ErrNone || x.Has(i) || x.Len() != 1 {
			t.Errorf("Drop of %v: error %d", i, e)
		}
	}
}

// P15.1: below what was dropped elements hang as below others.
func TestBelowDropped(t *testing.T) {
	x, m := made(t, right(id(1, 1), api.ID{}))
	x.Drop(id(1, 1))
	m.drop(id(1, 1))
	for _, i := range []api.Insert{right(id(2, 1), id(1, 1)), left(id(2, 2), id(1, 1)), right(id(0, 1), id(1, 1)), left(id(0, 2), id(1, 1))} {
		if e := x.Add(i); e != api.OK || m.add(i) != api.OK {
			t.Fatal(i, e)
		}
		holds(t, x, m, i)
	}
}

// P15.2: the order of elements that hang at one place, worked out by hand.
func TestSiblings(t *testing.T) {
	want := []api.ID{id(0, 1), id(0, 2), id(0, 10), id(0, top), id(1, 1), id(1, 3), id(2, 1), id(4, 1), id(4, top)}
	parent := id(3, 7)
	r := rand.New(rand.NewPCG(15, 2))
	for range 200 {
		x := fugue.New()
		x.Add(right(parent, api.ID{}))
		for _, k := range r.Perm(len(want)) {
			x.Add(right(want[k], parent))
			x.Add(left(id(3, 100+k), parent))
		}
		var got []api.ID
		for _, n := range x.Nodes() {
			got = append(got, n.ID)
		}
		lefts := make([]api.ID, len(want))
		for k := range lefts {
			lefts[k] = id(3, 100+k)
		}
		if whole := slices.Concat(lefts, []api.ID{parent}, want); !slices.Equal(got, whole) {
			t.Fatalf("order: %v, want %v", got, whole)
		}
	}
}

// P15.2: a text of some levels, worked out by hand.
func TestLevels(t *testing.T) {
	x, m := made(t,
		right(id(1, 1), api.ID{}),
		right(id(0, 1), api.ID{}),
		right(id(2, 1), id(1, 1)),
		left(id(2, 2), id(1, 1)),
		left(id(0, 2), id(2, 2)),
		right(id(0, 3), id(2, 2)),
		left(id(3, 1), id(0, 3)),
		left(id(0, 4), id(2, 1)),
		right(id(4, 1), id(0, 4)),
		right(id(0, 5), id(1, 1)),
		left(id(4, 2), id(0, 1)),
		right(id(4, 3), id(0, 1)),
	)
	holds(t, x, m, "levels")
	var got []api.ID
	for _, n := range x.Nodes() {
		got = append(got, n.ID)
	}
	want := []api.ID{
		id(4, 2), id(0, 1), id(4, 3),
		id(0, 2), id(2, 2), id(3, 1), id(0, 3),
		id(1, 1),
		id(0, 5),
		id(0, 4), id(4, 1), id(2, 1),
	}
	if !slices.Equal(got, want) {
		t.Errorf("order: %v, want %v", got, want)
	}
}

// P15.2, P15.3: all texts of up to four elements, hung in all ways, with their IDs in all orders, and one of them dropped, or none.
func TestSmall(t *testing.T) {
	ids := []api.ID{id(0, 7), id(1, 2), id(1, 9), id(3, 1)}
	tried := 0
	var grow func(x *fugue.Tree, m *model)
	grow = func(x *fugue.Tree, m *model) {
		tried++
		holds(t, x, m, m.inserts)
		for _, i := range m.inserts {
			y, n := x.Clone(), m.clone()
			y.Drop(i.ID)
			n.drop(i.ID)
			holds(t, y, n, m.inserts, "dropped", i.ID)
		}
		for _, i := range ids {
			if m.has(i) {
				continue
			}
			for k := range 2*len(m.inserts) + 1 {
				a := right(i, api.ID{})
				if k > 0 {
					a.Parent, a.Right = m.inserts[(k-1)/2].ID, k%2 == 0
				}
				y, n := x.Clone(), m.clone()
				if e := y.Add(a); e != api.OK || n.add(a) != api.OK {
					t.Fatalf("Add of %v: error %d", a, e)
				}
				grow(y, n)
			}
		}
	}
	grow(fugue.New(), newModel())
	if want := 1 + 4 + 12*3 + 24*15 + 24*105; tried != want {
		t.Errorf("%d texts, want %d", tried, want)
	}
}

// P15.1 to P15.3: texts out of chance.
func TestChance(t *testing.T) {
	r := rand.New(rand.NewPCG(15, 3))
	for i := range 300 {
		x, m := chance(t, r, r.IntN(40))
		holds(t, x, m, i)
	}
}

// deep are texts as deep as may be: elements one below the other, on the sides that a function tells.
func deep(t *testing.T, side func(i int) bool) (*fugue.Tree, *model) {
	t.Helper()
	x, m := fugue.New(), newModel()
	parent := api.ID{}
	for i := range room {
		a := api.Insert{ID: id(i%5, i+1), Parent: parent, Right: i == 0 || side(i), Rune: rune(i)}
		if e := x.Add(a); e != api.OK {
			t.Fatal(i, e)
		}
		m.inserts = append(m.inserts, a)
		parent = a.ID
	}
	return x, m
}

// P15.2, P15.3: texts as deep, and as broad, as may be.
func TestGreat(t *testing.T) {
	r := rand.New(rand.NewPCG(15, 4))
	for what, side := range []func(i int) bool{
		func(int) bool { return true },
		func(int) bool { return false },
		func(i int) bool { return i%2 == 0 },
		func(i int) bool { return i < room/2 },
		func(i int) bool { return i > room/2 },
		func(int) bool { return r.IntN(2) == 0 },
	} {
		x, m := deep(t, side)
		great(t, x, m, what)
	}
	for what, order := range [][]int{rising(), falling(), r.Perm(room)} {
		x, m := fugue.New(), newModel()
		for _, i := range order {
			a := right(id(i%5, i+1), api.ID{})
			if e := x.Add(a); e != api.OK {
				t.Fatal(i, e)
			}
			m.inserts = append(m.inserts, a)
		}
		great(t, x, m, "broad", what)
	}
}

func rising() []int {
	out := make([]int, room)
	for i := range out {
		out[i] = i
	}
	return out
}

func falling() []int {
	out := rising()
	slices.Reverse(out)
	return out
}

// great holds a great text, and a clone of which half is dropped, against its model, at some places.
func great(t *testing.T, x *fugue.Tree, m *model, what ...any) {
	t.Helper()
	for _, y := range []*fugue.Tree{x, x.Clone()} {
		if y != x {
			for i := 0; i < room; i += 2 {
				y.Drop(m.inserts[i].ID)
				m.gone[m.inserts[i].ID] = true
			}
		}
		l := m.nodes()
		looks(t, y, l, what...)
		seen := shown(l)
		for _, i := range []int{0, 1, 2, len(seen) / 2, len(seen) - 2, len(seen) - 1, len(seen)} {
			if a, e := y.At(i); i < len(seen) && (a != seen[i].ID || e != api.OK) || i == len(seen) && e != api.ErrRange {
				t.Fatalf("%v: At of %d: %v, error %d", what, i, a, e)
			}
			p, side, e := y.Plan(i)
			if wantP, wantSide, wantE := m.plan(i); p != wantP || side != wantSide || e != wantE {
				t.Fatalf("%v: Plan of %d: %v, %t, error %d, want %v, %t, error %d", what, i, p, side, e, wantP, wantSide, wantE)
			}
		}
	}
}

// P15.2: runes of each length as UTF-8.
func TestUTF8(t *testing.T) {
	x := fugue.New()
	var want []byte
	for i, c := range []struct {
		c    rune
		form string
	}{
		{0, "\x00"}, {'a', "a"}, {0x7f, "\x7f"}, {0x80, "\xc2\x80"}, {0x7ff, "\xdf\xbf"}, {0x800, "\xe0\xa0\x80"},
		{0xd7ff, "\xed\x9f\xbf"}, {0xe000, "\xee\x80\x80"}, {0xfffd, "\xef\xbf\xbd"}, {0xffff, "\xef\xbf\xbf"},
		{0x10000, "\xf0\x90\x80\x80"}, {0x10ffff, "\xf4\x8f\xbf\xbf"},
	} {
		if e := x.Add(api.Insert{ID: id(0, i+1), Parent: id(0, i), Right: true, Rune: c.c}); e != api.OK {
			t.Errorf("Add of rune %x: error %d", c.c, e)
		}
		want = append(want, c.form...)
		if x.Text() != string(want) {
			t.Errorf("Text: %x, want %x", x.Text(), want)
		}
	}
}

// P15.2: who leaves early sees no more; All may be ranged over again, and within itself.
func TestLeave(t *testing.T) {
	r := rand.New(rand.NewPCG(15, 5))
	for size := range 12 {
		x, m := chance(t, r, size)
		l := m.nodes()
		given := x.All()
		for leave := range size + 1 {
			var got []api.Node
			for i, n := range given {
				if got = append(got, n); i == leave {
					break
				}
			}
			if want := l[:min(leave+1, size)]; !slices.Equal(got, want) {
				t.Fatalf("left at %d: %v, want %v", leave, got, want)
			}
			calls := 0
			given(func(int, api.Node) bool {
				calls++
				return calls <= leave
			})
			if calls != min(leave+1, size) {
				t.Fatalf("left at %d of %d: %d were given", leave, size, calls)
			}
		}
		pairs := 0
		for i, a := range given {
			for k, b := range given {
				if a != l[i] || b != l[k] {
					t.Fatalf("%d, %d: %v, %v", i, k, a, b)
				}
				pairs++
			}
		}
		if pairs != size*size {
			t.Fatalf("%d pairs of %d elements", pairs, size)
		}
	}
}

// What All has answered is what was there: what becomes of the text behind that, or meanwhile, is not told, and it ends.
func TestAllStays(t *testing.T) {
	r := rand.New(rand.NewPCG(15, 6))
	x, m := chance(t, r, 20)
	was, given := m.nodes(), x.All()
	for next := range 3 {
		i := 0
		for k, n := range given {
			if k != i || n != was[i] {
				t.Fatalf("element %d, %v, want element %d, %v", k, n, i, was[i])
			}
			i++
			a := right(id(0, 1000+100*next+k), n.ID)
			if e := x.Add(a); e != m.add(a) {
				t.Fatalf("Add of %v while All gives: error %d", a, e)
			}
			last := was[len(was)-1-k].ID
			if e := x.Drop(last); e != m.drop(last) {
				t.Fatalf("Drop of %v while All gives: error %d", last, e)
			}
		}
		if i != len(was) {
			t.Fatalf("%d elements were given, want %d", i, len(was))
		}
		holds(t, x, m, "changed while All gave")
	}
}

// P15.3: Plan, worked out by hand, with what was dropped beside it.
func TestKnownPlans(t *testing.T) {
	type want struct {
		parent api.ID
		right  bool
	}
	// The order is: 2.1 (left of 0.1), 0.1, 1.1 (left of 0.2), 0.2, 0.3 (right of 0.2).
	x, _ := made(t, right(id(0, 1), api.ID{}), right(id(0, 2), id(0, 1)), left(id(1, 1), id(0, 2)), left(id(2, 1), id(0, 1)), right(id(0, 3), id(0, 2)))
	try := func(l ...want) {
		t.Helper()
		for i, w := range l {
			if p, side, e := x.Plan(i); p != w.parent || side != w.right || e != api.OK {
				t.Errorf("Plan of %d: %v, %t, error %d, want %v", i, p, side, e, w)
			}
		}
		for _, i := range []int{math.MinInt, -1, len(l), len(l) + 1, math.MaxInt} {
			if p, side, e := x.Plan(i); p != (api.ID{}) || side || e != api.ErrRange {
				t.Errorf("Plan of %d: %v, %t, error %d", i, p, side, e)
			}
		}
	}
	try(want{id(2, 1), false}, want{id(2, 1), true}, want{id(1, 1), false}, want{id(1, 1), true}, want{id(0, 3), false}, want{id(0, 3), true})
	x.Drop(id(1, 1)) // it is the next one behind 0.1, all the same
	try(want{id(2, 1), false}, want{id(2, 1), true}, want{id(1, 1), false}, want{id(0, 3), false}, want{id(0, 3), true})
	x.Drop(id(2, 1)) // and this one the first of all
	try(want{id(2, 1), false}, want{id(1, 1), false}, want{id(0, 3), false}, want{id(0, 3), true})
	x.Drop(id(0, 3)) // a right child, all the same
	try(want{id(2, 1), false}, want{id(1, 1), false}, want{id(0, 3), false})
	x.Drop(id(0, 1))
	try(want{id(2, 1), false}, want{id(0, 3), false})
	x.Drop(id(0, 2))
	try(want{id(2, 1), false})
}

// P15.3: a clone is just so, and neither knows of the other.
func TestClone(t *testing.T) {
	r := rand.New(rand.NewPCG(15, 7))
	for i := range 150 {
		x, m := chance(t, r, i%30)
		y, n := x.Clone(), m.clone()
		holds(t, y, n, i, "a clone")
		for k := range 20 {
			a, b := x, m
			if k%2 == 1 {
				a, b = y, n
			}
			insert := right(id(r.IntN(5), 1+r.IntN(40)), api.ID{})
			if l := len(b.inserts); l > 0 {
				insert.Parent, insert.Right = b.inserts[r.IntN(l)].ID, r.IntN(2) == 0
			}
			if e, want := a.Add(insert), b.add(insert); e != want {
				t.Fatalf("%d: Add of %v: error %d, want %d", i, insert, e, want)
			}
			gone := id(r.IntN(5), 1+r.IntN(40))
			if e, want := a.Drop(gone), b.drop(gone); e != want {
				t.Fatalf("%d: Drop of %v: error %d, want %d", i, gone, e, want)
			}
		}
		holds(t, x, m, i, "what was cloned")
		holds(t, y, n, i, "the clone")
		holds(t, y.Clone().Clone(), n, i, "the clone's clone's clone")
	}
	x, _ := deep(t, func(i int) bool { return i%3 == 0 })
	if e := x.Clone().Add(right(id(0, room+1), api.ID{})); e != api.ErrFull {
		t.Error("a full text's clone: error", e)
	}
}

// P15.3: of a nil text; one that New did not make makes no call panic, either.
func TestNil(t *testing.T) {
	var none *fugue.Tree
	for _, x := range []*fugue.Tree{none, {}, new(fugue.Tree).Clone()} {
		for _, i := range []api.Insert{{}, right(id(0, 1), api.ID{}), left(id(0, 1), api.ID{}), right(id(9, 9), id(9, 9)), right(id(0, 1), id(0, 1)), {ID: id(0, 1), Right: true, Rune: -1}} {
			if e := x.Add(i); e != api.ErrNone {
				t.Errorf("Add of %v: error %d", i, e)
			}
			if e := x.Drop(i.ID); e != api.ErrNone {
				t.Errorf("Drop of %v: error %d", i.ID, e)
			}
			if x.Has(i.ID) || x.Has(i.Parent) {
				t.Errorf("it has %v or %v", i.ID, i.Parent)
			}
		}
		for _, i := range places(1) {
			if a, e := x.At(i); a != (api.ID{}) || e != api.ErrRange {
				t.Errorf("At of %d: %v, error %d", i, a, e)
			}
			if p, side, e := x.Plan(i); p != (api.ID{}) || side || e != api.ErrRange {
				t.Errorf("Plan of %d: %v, %t, error %d", i, p, side, e)
			}
		}
		looks(t, x, nil, "no text")
	}
	if none.Clone() != nil {
		t.Error("nil has a clone")
	}
}

// step is an element to be added, or one to be dropped.
type step struct {
	add  api.Insert
	drop api.ID
}

// do does a step; it tells whether that could be done as yet.
func (s step) do(x *fugue.Tree) bool {
	if s.drop != (api.ID{}) {
		return x.Drop(s.drop) == api.OK
	}
	return x.Add(s.add) == api.OK
}

// P15.4: some elements and drops in all orders in which each one stands behind what it needs: one text.
func TestAllOrders(t *testing.T) {
	r := rand.New(rand.NewPCG(15, 8))
	for i := range 60 {
		_, m := chance(t, r, 5)
		var steps []step
		for _, a := range m.inserts {
			steps = append(steps, step{add: a})
			if m.gone[a.ID] && len(steps) < 8 {
				steps = append(steps, step{drop: a.ID})
			} else {
				delete(m.gone, a.ID)
			}
		}
		want, ends := m.nodes(), 0
		var grow func(x *fugue.Tree, left []step)
		grow = func(x *fugue.Tree, left []step) {
			if len(left) == 0 {
				ends++
				looks(t, x, want, i, steps)
			}
			for k, s := range left {
				if y := x.Clone(); s.do(y) {
					grow(y, slices.Concat(left[:k], left[k+1:]))
				}
			}
		}
		grow(fugue.New(), steps)
		if ends == 0 {
			t.Fatal("no order")
		}
	}
}

// P15.4: greater texts in some orders; and written on two clones, each of which then gets the other's.
func TestSomeOrders(t *testing.T) {
	r := rand.New(rand.NewPCG(15, 9))
	for i := range 40 {
		_, m := chance(t, r, 50+r.IntN(200))
		var steps []step
		for _, a := range m.inserts {
			steps = append(steps, step{add: a})
			if m.gone[a.ID] {
				steps = append(steps, step{drop: a.ID})
			}
		}
		want := m.nodes()
		for range 5 {
			x, left := fugue.New(), slices.Clone(steps)
			for len(left) > 0 {
				r.Shuffle(len(left), func(a, b int) { left[a], left[b] = left[b], left[a] })
				left = slices.DeleteFunc(left, func(s step) bool { return s.do(x) })
			}
			looks(t, x, want, i)
		}
	}
}

// P15.4: two write at one time, each on its own, and then hand one another what they wrote.
func TestTwo(t *testing.T) {
	r := rand.New(rand.NewPCG(15, 10))
	for i := range 100 {
		x, _ := chance(t, r, r.IntN(20))
		texts := []*fugue.Tree{x.Clone(), x.Clone()}
		var wrote [2][]step
		for k := range 40 {
			who := r.IntN(2)
			y, at := texts[who], r.IntN(texts[who].Len()+1)
			s := step{}
			if a, e := y.At(at); e == api.OK && r.IntN(3) == 0 {
				s.drop = a
			} else {
				p, side, _ := y.Plan(at)
				s.add = api.Insert{ID: id(r.IntN(5), 100+2*k+who), Parent: p, Right: side, Rune: rune('a' + k)}
			}
			if !s.do(y) {
				t.Fatalf("%d: %v was planned, and is refused", i, s)
			}
			wrote[who] = append(wrote[who], s)
		}
		for who, y := range texts {
			for _, s := range wrote[1-who] {
				if !s.do(y) && (s.drop == api.ID{} || y.Drop(s.drop) != api.ErrThere) { // both may have dropped it
					t.Fatalf("%d: %v of the other one is refused", i, s)
				}
			}
		}
		if a, b := texts[0].Nodes(), texts[1].Nodes(); !slices.Equal(a, b) {
			t.Fatalf("%d: %v, and %v", i, a, b)
		}
	}
}

// P15.5: at all places, with IDs less and greater than others and between them: what is planned stands there, and nothing else has moved.
func TestPlanned(t *testing.T) {
	r := rand.New(rand.NewPCG(15, 11))
	for i := range 150 {
		x, m := chance(t, r, i%25)
		was, n := x.Nodes(), x.Len()
		for at := range n + 1 {
			for _, a := range []api.ID{id(0, top), id(1, top), id(2, top-1), id(4, top), id(r.IntN(5), 1+r.IntN(40)), id(0, 1), id(4, 1)} {
				if m.has(a) {
					continue
				}
				y := x.Clone()
				p, side, e := y.Plan(at)
				if e != api.OK || y.Add(api.Insert{ID: a, Parent: p, Right: side, Rune: 'x'}) != api.OK {
					t.Fatalf("%d: %v planned at %d: %v, %t, error %d", i, a, at, p, side, e)
				}
				if got, e := y.At(at); got != a || e != api.OK || y.Len() != n+1 {
					t.Fatalf("%d: at %d stands %v, error %d, want %v", i, at, got, e, a)
				}
				others := slices.DeleteFunc(y.Nodes(), func(n api.Node) bool { return n.ID == a })
				if !slices.Equal(others, was) {
					t.Fatalf("%d: %v planned at %d has moved others: %v, and were %v", i, a, at, others, was)
				}
			}
		}
	}
}

// P15.5: a text that one types, erases, and types in between, rune by rune.
func TestTyped(t *testing.T) {
	r := rand.New(rand.NewPCG(15, 12))
	for range 30 {
		x, want := fugue.New(), []rune(nil)
		for i := range 300 {
			at := r.IntN(len(want) + 1)
			if r.IntN(3) == 0 && at < len(want) {
				a, _ := x.At(at)
				x.Drop(a)
				want = slices.Delete(want, at, at+1)
			} else {
				c := rune(0x61 + r.IntN(0x3000))
				p, side, _ := x.Plan(at)
				x.Add(api.Insert{ID: id(r.IntN(5), i+1), Parent: p, Right: side, Rune: c})
				want = slices.Insert(want, at, c)
			}
			if x.Text() != string(want) || x.Len() != len(want) {
				t.Fatalf("Text: %q, want %q", x.Text(), string(want))
			}
		}
	}
}

// P15.6: whatever is added and dropped: what was dropped stays so, and what was there stands in its old order.
func TestNeverBack(t *testing.T) {
	r := rand.New(rand.NewPCG(15, 13))
	for range 60 {
		x, m := chance(t, r, 1+r.IntN(10))
		was := x.Nodes()
		for k := range 40 {
			old := m.inserts[r.IntN(len(m.inserts))]
			gone := m.gone[old.ID]
			again := old
			again.Rune, again.Right, again.Parent = 'z', true, api.ID{}
			for _, a := range []api.Insert{old, again} {
				if e := x.Add(a); e != api.ErrThere {
					t.Fatalf("%v added again: error %d", a, e)
				}
			}
			if gone && x.Drop(old.ID) != api.ErrThere {
				t.Fatalf("%v was dropped twice", old.ID)
			}
			looks(t, x, was, "added again", old)
			a := right(id(r.IntN(5), 20+k), old.ID)
			a.Right = r.IntN(2) == 0
			if r.IntN(3) == 0 {
				x.Drop(old.ID)
				m.drop(old.ID)
			} else if e := x.Add(a); e != m.add(a) {
				t.Fatalf("Add of %v: error %d", a, e)
			}
			now := x.Nodes()
			i := 0
			for _, n := range now {
				if i < len(was) && n.ID == was[i].ID {
					if was[i].Gone && !n.Gone {
						t.Fatalf("%v has come back", n.ID)
					}
					i++
				}
			}
			if i != len(was) {
				t.Fatalf("%v have changed places: %v", was, now)
			}
			was = now
		}
	}
}

// Each answer is new memory: what becomes of it, or of the room behind it, the text does not know, nor another answer.
func TestMemory(t *testing.T) {
	r := rand.New(rand.NewPCG(15, 14))
	for size := range 20 {
		x, m := chance(t, r, size)
		given := x.All()
		one, two := x.Nodes(), x.Nodes()
		for i := range one[:cap(one)] {
			one[:cap(one)][i] = api.Node{ID: id(9, 9), Rune: 'z', Gone: true}
		}
		if !slices.Equal(two, m.nodes()) {
			t.Fatal("two answers share memory")
		}
		holds(t, x, m, size, "an answer was changed")
		for i, n := range given {
			if n != two[i] {
				t.Fatal("what All gives shares memory with Nodes")
			}
		}
	}
}

// What asks changes nothing: the same is told twice, whatever is asked in between.
func TestAsking(t *testing.T) {
	r := rand.New(rand.NewPCG(15, 15))
	x, m := chance(t, r, 30)
	for range 3 {
		holds(t, x, m, "asked")
	}
	var again [2]*fugue.Tree
	for i := range again {
		again[i], _ = chance(t, rand.New(rand.NewPCG(15, 16)), 200)
	}
	if !slices.Equal(again[0].Nodes(), again[1].Nodes()) || again[0].Text() != again[1].Text() {
		t.Error("the same calls, and two texts")
	}
}
