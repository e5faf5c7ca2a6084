package paper_test

import (
	"bytes"
	"cmp"
	"encoding/binary"
	"encoding/hex"
	"math"
	"math/rand/v2"
	"slices"
	"strings"
	"testing"
	"unicode/utf8"

	"sealwax/api"
	"sealwax/paper"
	"sealwax/wire"
)

const (
	top    = 1 << 40 // the greatest number, by the document's words
	room   = 4096    // operations of a paper
	marked = 512     // marks of a paper
	most   = 64      // operations that are written at once
	names  = 4
)

// none is the zero ID: the beginning, or a text's end.
var none api.ID

func id(author, count int) api.ID { return api.ID{Author: author, Count: count} }

func ahead(i api.ID) api.Anchor  { return api.Anchor{ID: i} }
func behind(i api.ID) api.Anchor { return api.Anchor{ID: i, Behind: true} }

// right, left, drop and mark are operations.
func right(i, parent api.ID, c rune) api.Op {
	return api.Op{Kind: 1, Insert: api.Insert{ID: i, Parent: parent, Right: true, Rune: c}}
}

func left(i, parent api.ID, c rune) api.Op {
	return api.Op{Kind: 1, Insert: api.Insert{ID: i, Parent: parent, Rune: c}}
}

func drop(i api.ID) api.Op { return api.Op{Kind: 2, Drop: i} }

func mark(m api.Mark) api.Op { return api.Op{Kind: 3, Mark: m} }

// word is a text of some runes, the elements 0.1 to 0.n, each right of the one ahead of it.
func word(s string) []api.Op {
	var out []api.Op
	for _, c := range s {
		n := len(out)
		parent := id(0, n)
		if n == 0 {
			parent = none
		}
		out = append(out, right(id(0, n+1), parent, c))
	}
	return out
}

func element(i api.ID) bool {
	return 0 <= i.Author && i.Author <= 4 && 1 <= i.Count && i.Count <= top
}

func anchor(i api.ID) bool { return i == none || element(i) }

// may tells whether an operation may be, by the document's words.
func may(o api.Op) bool {
	noInsert, noDrop, noMark := o.Insert == api.Insert{}, o.Drop == none, o.Mark == api.Mark{}
	i, m := o.Insert, o.Mark
	switch o.Kind {
	case 1:
		if !noDrop || !noMark || !element(i.ID) || !anchor(i.Parent) || i.Parent == none && !i.Right {
			return false
		}
		return 0 <= i.Rune && i.Rune < 0xd800 || 0xdfff < i.Rune && i.Rune <= 0x10ffff
	case 2:
		return noInsert && noMark && element(o.Drop)
	case 3:
		return noInsert && noDrop && 1 <= m.Clock && m.Clock <= top && 0 <= m.Author && m.Author <= 4 &&
			1 <= m.Name && m.Name <= names && 0 <= m.Value && m.Value <= top && anchor(m.From.ID) && anchor(m.To.ID)
	}
	return false
}

// one tells whether two operations that may be are one.
func one(a, b api.Op) bool {
	switch {
	case a.Kind != b.Kind:
		return false
	case a.Kind == 1:
		return a.Insert.ID == b.Insert.ID
	case a.Kind == 2:
		return a.Drop == b.Drop
	}
	return a.Mark.Clock == b.Mark.Clock && a.Mark.Author == b.Mark.Author
}

// model is the operations of a paper that are known, as they came.
type model []api.Op

func (m model) knows(o api.Op) bool {
	return may(o) && slices.ContainsFunc(m, func(x api.Op) bool { return one(x, o) })
}

func (m model) many(kind int) int {
	n := 0
	for _, o := range m {
		if o.Kind == kind {
			n++
		}
	}
	return n
}

func (m *model) do(l ...api.Op) api.Errno {
	for _, o := range l {
		if !may(o) {
			return api.ErrArg
		}
	}
	now := slices.Clone(*m)
	for _, o := range l {
		if !now.knows(o) {
			now = append(now, o)
		}
	}
	if len(now) > room || now.many(3) > marked {
		return api.ErrFull
	}
	*m = now
	return api.OK
}

func below(a, b api.ID) int {
	return cmp.Or(cmp.Compare(a.Author, b.Author), cmp.Compare(a.Count, b.Count))
}

// ops is all that are known, kind by kind.
func (m model) ops() []api.Op {
	var inserts, drops, marks []api.Op
	for _, o := range m {
		switch o.Kind {
		case 1:
			inserts = append(inserts, o)
		case 2:
			drops = append(drops, o)
		case 3:
			marks = append(marks, o)
		}
	}
	slices.SortFunc(inserts, func(a, b api.Op) int { return below(a.Insert.ID, b.Insert.ID) })
	slices.SortFunc(drops, func(a, b api.Op) int { return below(a.Drop, b.Drop) })
	slices.SortFunc(marks, func(a, b api.Op) int {
		return cmp.Or(cmp.Compare(a.Mark.Clock, b.Mark.Clock), cmp.Compare(a.Mark.Author, b.Mark.Author))
	})
	return slices.Concat(inserts, drops, marks)
}

// place is a side of an element, or of the beginning.
type place struct {
	parent api.ID
	right  bool
}

// nodes is the order of the text: from the beginning down, so that what waits is not come to.
func (m model) nodes() []api.Node {
	at, gone := map[place][]api.Insert{}, map[api.ID]bool{}
	for _, o := range m {
		switch o.Kind {
		case 1:
			p := place{o.Insert.Parent, o.Insert.Right}
			at[p] = append(at[p], o.Insert)
		case 2:
			gone[o.Drop] = true
		}
	}
	var out []api.Node
	var walk func(p place)
	walk = func(p place) {
		slices.SortFunc(at[p], func(a, b api.Insert) int { return below(a.ID, b.ID) })
		for _, i := range at[p] {
			walk(place{i.ID, false})
			out = append(out, api.Node{ID: i.ID, Rune: i.Rune, Gone: gone[i.ID]})
			walk(place{i.ID, true})
		}
	}
	walk(place{right: true})
	return out
}

func shown(l []api.Node) []api.Node {
	return slices.DeleteFunc(slices.Clone(l), func(n api.Node) bool { return n.Gone })
}

func text(l []api.Node) string {
	var out []rune
	for _, n := range shown(l) {
		out = append(out, n.Rune)
	}
	return string(out)
}

// waiting is all inserts that are no elements, and all drops of what is none.
func (m model) waiting() int {
	there := map[api.ID]bool{}
	for _, n := range m.nodes() {
		there[n.ID] = true
	}
	out := 0
	for _, o := range m {
		if o.Kind == 1 && !there[o.Insert.ID] || o.Kind == 2 && !there[o.Drop] {
			out++
		}
	}
	return out
}

func (m model) count(author int) int {
	out := 0
	for _, o := range m {
		if o.Kind == 1 && o.Insert.ID.Author == author && o.Insert.ID.Count > out {
			out = o.Insert.ID.Count
		}
	}
	return out
}

// spot is an anchor's place as a number: the k-th element stands at 4k + 2, and -1 is no place.
func spot(at map[api.ID]int, a api.Anchor) int {
	k, there := at[a.ID]
	switch {
	case a.ID == none && a.Behind:
		return 0
	case a.ID == none:
		return math.MaxInt
	case !there:
		return -1
	case a.Behind:
		return 4*k + 3
	}
	return 4*k + 1
}

// runs is the text in runs: of each element and each name the newest mark that covers it is sought.
func (m model) runs() []api.Run {
	nodes := m.nodes()
	at := map[api.ID]int{}
	for k, n := range nodes {
		at[n.ID] = k
	}
	type stretch struct {
		from, to int
		api.Mark
	}
	var known []stretch
	for _, o := range m {
		if from, to := spot(at, o.Mark.From), spot(at, o.Mark.To); o.Kind == 3 && from >= 0 && to >= 0 {
			known = append(known, stretch{from, to, o.Mark})
		}
	}
	var out []api.Run
	for k, n := range nodes {
		if n.Gone {
			continue
		}
		var style api.Style
		var newest [names + 1]stretch // the zero mark is older than all
		for _, a := range known {
			b := newest[a.Name]
			if (a.Clock > b.Clock || a.Clock == b.Clock && a.Author > b.Author) && a.from < 4*k+2 && 4*k+2 < a.to {
				newest[a.Name], style[a.Name] = a, a.Value
			}
		}
		if e := len(out) - 1; e >= 0 && out[e].Style == style {
			out[e].Text += string(n.Rune)
		} else {
			out = append(out, api.Run{Text: string(n.Rune), Style: style})
		}
	}
	return out
}

// typed, erased and painted are what Type, Erase and Paint must tell.
func (m model) typed(at int, s string, author int) ([]api.Op, api.Errno) {
	nodes := m.nodes()
	seen := shown(nodes)
	runes := []rune(s)
	switch {
	case author < 0, author > 4:
		return nil, api.ErrArg
	case at < 0, at > len(seen):
		return nil, api.ErrRange
	case len(runes) > most:
		return nil, api.ErrLong
	case m.count(author) > top-len(runes):
		return nil, api.ErrFull
	}
	parent, next := none, 0
	if at > 0 {
		parent = seen[at-1].ID
		next = 1 + slices.IndexFunc(nodes, func(n api.Node) bool { return n.ID == parent })
	}
	side := true
	if slices.ContainsFunc(m, func(o api.Op) bool { return o.Kind == 1 && o.Insert.Right && o.Insert.Parent == parent }) {
		parent, side = nodes[next].ID, false
	}
	var out []api.Op
	for k, c := range runes {
		i := id(author, m.count(author)+1+k)
		out = append(out, api.Op{Kind: 1, Insert: api.Insert{ID: i, Parent: parent, Right: side, Rune: c}})
		parent, side = i, true
	}
	return out, api.OK
}

// stretch is the n elements that are not dropped from the at-th on, if they are there.
func (m model) stretch(at, n int) ([]api.Node, bool) {
	seen := shown(m.nodes())
	if at < 0 || n < 0 || at > len(seen) || n > len(seen) || at+n > len(seen) {
		return nil, false
	}
	return seen[at : at+n], true
}

func (m model) erased(at, n int) ([]api.Op, api.Errno) {
	l, there := m.stretch(at, n)
	switch {
	case !there:
		return nil, api.ErrRange
	case n > most:
		return nil, api.ErrLong
	}
	var out []api.Op
	for _, x := range l {
		out = append(out, drop(x.ID))
	}
	return out, api.OK
}

func (m model) painted(at, n, name, value, author int) ([]api.Op, api.Errno) {
	l, there := m.stretch(at, n)
	if !there || n == 0 {
		return nil, api.ErrRange
	}
	clock := 0
	for _, o := range m {
		clock = max(clock, o.Mark.Clock)
	}
	if clock == top {
		return nil, api.ErrFull
	}
	o := mark(api.Mark{Clock: clock + 1, Author: author, From: ahead(l[0].ID), To: behind(l[n-1].ID), Name: name, Value: value})
	if !may(o) {
		return nil, api.ErrArg
	}
	return []api.Op{o}, api.OK
}

// looks holds the text of a paper against its model.
func looks(t *testing.T, p *paper.Paper, m model, what ...any) {
	t.Helper()
	nodes := m.nodes()
	if got, want := p.Text(), text(nodes); got != want {
		t.Fatalf("%v: Text: %.200q, want %.200q", what, got, want)
	}
	if got, want := p.Len(), len(shown(nodes)); got != want {
		t.Fatalf("%v: Len: %d, want %d", what, got, want)
	}
	if got, want := p.Runs(), m.runs(); !slices.Equal(got, want) {
		t.Fatalf("%v: Runs: %.300v, want %.300v", what, got, want)
	}
}

// holds holds all that a paper tells, but for what is to be written, against its model.
func holds(t *testing.T, p *paper.Paper, m model, what ...any) {
	t.Helper()
	looks(t, p, m, what...)
	if got, want := p.Ops(), m.ops(); !slices.Equal(got, want) {
		t.Fatalf("%v: Ops: %.400v, want %.400v", what, got, want)
	}
	if got, want := p.Waiting(), m.waiting(); got != want {
		t.Fatalf("%v: Waiting: %d, want %d", what, got, want)
	}
	for _, author := range []int{math.MinInt, -1, 0, 1, 2, 3, 4, 5, math.MaxInt} {
		if got, want := p.Count(author), m.count(author); got != want {
			t.Fatalf("%v: Count of %d: %d, want %d", what, author, got, want)
		}
	}
	for _, o := range m {
		if !p.Knows(o) {
			t.Fatalf("%v: %v is not known", what, o)
		}
	}
}

// tells holds an answer against what must be told.
func tells(t *testing.T, got []api.Op, e api.Errno, want []api.Op, wantE api.Errno, what ...any) {
	t.Helper()
	if !slices.Equal(got, want) || e != wantE {
		t.Fatalf("%v: %.400v, error %d, want %.400v, error %d", what, got, e, want, wantE)
	}
}

// writes holds what is to be written at all places of a paper against its model.
func writes(t *testing.T, p *paper.Paper, m model, what ...any) {
	t.Helper()
	n := len(shown(m.nodes()))
	places := []int{math.MinInt, -1, n + 1, n + 2, math.MaxInt}
	for i := range n + 1 {
		places = append(places, i)
	}
	for _, at := range places {
		for _, author := range []int{at & 7, 0, 4} {
			got, e := p.Type(at, "xyz", author)
			want, wantE := m.typed(at, "xyz", author)
			tells(t, got, e, want, wantE, what, "Type at", at, "by", author)
		}
		for _, k := range []int{math.MinInt, -1, 0, 1, 2, 3, n - at - 1, n - at, n - at + 1, most, most + 1, math.MaxInt} {
			got, e := p.Erase(at, k)
			want, wantE := m.erased(at, k)
			tells(t, got, e, want, wantE, what, "Erase at", at, "of", k)
			got, e = p.Paint(at, k, 2, 7, 3)
			want, wantE = m.painted(at, k, 2, 7, 3)
			tells(t, got, e, want, wantE, what, "Paint at", at, "of", k)
		}
	}
}

// does does operations with a paper and with its model; both must tell one thing.
func does(t *testing.T, p *paper.Paper, m *model, l ...api.Op) {
	t.Helper()
	if e, want := p.Do(l...), m.do(l...); e != want {
		t.Fatalf("Do of %.300v: error %d, want %d", l, e, want)
	}
}

// made is a paper of some operations, all of which may be.
func made(t *testing.T, l ...api.Op) (*paper.Paper, model) {
	t.Helper()
	p, m := paper.New(), model(nil)
	if e := p.Do(l...); e != api.OK || m.do(l...) != api.OK {
		t.Fatalf("Do of %.300v: error %d", l, e)
	}
	return p, m
}

// some is operations out of chance, of which many are one with others, and many wait, some of them for ever.
func some(r *rand.Rand, n, space int) []api.Op {
	anyID := func() api.ID { return id(r.IntN(5), 1+r.IntN(space)) }
	anyAnchor := func() api.Anchor {
		if r.IntN(4) == 0 {
			return api.Anchor{Behind: r.IntN(2) == 0}
		}
		return api.Anchor{ID: anyID(), Behind: r.IntN(2) == 0}
	}
	var out []api.Op
	for range n {
		switch r.IntN(6) {
		case 0:
			out = append(out, drop(anyID()))
		case 1:
			out = append(out, mark(api.Mark{Clock: 1 + r.IntN(space), Author: r.IntN(5), From: anyAnchor(), To: anyAnchor(), Name: 1 + r.IntN(names), Value: r.IntN(3)}))
		case 2:
			out = append(out, right(anyID(), none, rune('a'+r.IntN(26))))
		case 3:
			out = append(out, left(anyID(), anyID(), rune('a'+r.IntN(26))))
		default:
			out = append(out, right(anyID(), anyID(), rune('a'+r.IntN(26))))
		}
	}
	return out
}

// grown is a paper that several have written, nothing of which waits: what is written is done at once.
func grown(t *testing.T, r *rand.Rand, steps int) (*paper.Paper, model) {
	t.Helper()
	p, m := paper.New(), model(nil)
	for range steps {
		var l []api.Op
		var e api.Errno
		at := r.IntN(p.Len() + 1)
		rest := p.Len() - at
		switch k := r.IntN(5); {
		case k == 0:
			l, e = p.Erase(at, r.IntN(min(rest, 3)+1))
		case k == 1 && rest > 0:
			l, e = p.Paint(at, 1+r.IntN(rest), 1+r.IntN(names), r.IntN(3), r.IntN(5))
		default:
			l, e = p.Type(at, "abcdefgh"[:r.IntN(5)], r.IntN(5))
		}
		if e != api.OK {
			t.Fatal("to be written: error", e)
		}
		does(t, p, &m, l...)
	}
	return p, m
}

// Example 1.
func TestExample(t *testing.T) {
	p := paper.New()
	l, e := p.Type(0, "ab", 0)
	want := []api.Op{right(id(0, 1), none, 'a'), right(id(0, 2), id(0, 1), 'b')}
	tells(t, l, e, want, api.OK, "Type")
	if p.Do(l[1]) != api.OK || p.Waiting() != 1 || p.Text() != "" || p.Len() != 0 {
		t.Error("0.2 alone:", p.Waiting(), p.Text())
	}
	if p.Do(l[0]) != api.OK || p.Waiting() != 0 || p.Text() != "ab" || p.Len() != 2 {
		t.Error("both:", p.Waiting(), p.Text())
	}
}

// P18.2: of a paper without operations.
func TestNew(t *testing.T) {
	p := paper.New()
	holds(t, p, nil, "New")
	writes(t, p, nil, "New")
	if len(p.Ops()) != 0 || len(p.Runs()) != 0 || p.Waiting() != 0 || p.Len() != 0 || p.Text() != "" {
		t.Error("a new paper has something")
	}
	if p.Knows(right(id(0, 1), none, 'a')) || p.Knows(drop(id(0, 1))) || p.Knows(mark(api.Mark{Clock: 1, Name: 1})) || p.Knows(api.Op{}) {
		t.Error("a new paper knows something")
	}
	if p.Do() != api.OK || p.Do([]api.Op{}...) != api.OK {
		t.Error("Do of nothing")
	}
	if e := paper.New().Do(word("abc")...); e != api.OK || p.Len() != 0 || paper.New().Len() != 0 {
		t.Error("a paper knows of another one:", e)
	}
}

// goods is operations of each kind that may be.
func goods() []api.Op {
	return []api.Op{
		right(id(1, 3), id(2, 9), 'x'),
		left(id(1, 3), id(2, 9), 'x'),
		right(id(1, 3), none, 'x'),
		drop(id(2, 5)),
		mark(api.Mark{Clock: 7, Author: 2, From: ahead(id(1, 3)), To: behind(id(2, 9)), Name: 3, Value: 8}),
		mark(api.Mark{Clock: 7, Author: 2, From: behind(none), To: ahead(none), Name: 3}),
	}
}

// numbers is all numbers of an operation but its rune.
func numbers(o *api.Op) []*int {
	i, m := &o.Insert, &o.Mark
	return []*int{
		&o.Kind, &i.ID.Author, &i.ID.Count, &i.Parent.Author, &i.Parent.Count, &o.Drop.Author, &o.Drop.Count,
		&m.Clock, &m.Author, &m.From.ID.Author, &m.From.ID.Count, &m.To.ID.Author, &m.To.ID.Count, &m.Name, &m.Value,
	}
}

// flags is all flags of an operation.
func flags(o *api.Op) []*bool {
	return []*bool{&o.Insert.Right, &o.Mark.From.Behind, &o.Mark.To.Behind}
}

// edges are numbers at the edges of all ranges, and far from them.
func edges() []int {
	return []int{math.MinInt, math.MinInt + 1, -top, -1 << 32, -2, -1, 0, 1, 2, 3, 4, 5, 6, 1<<32 - 1, 1 << 32, 1<<32 + 1, top - 1, top, top + 1, 2 * top, math.MaxInt - 1, math.MaxInt}
}

// runes are runes at the edges of those that may be, and far from them.
func runes() []rune {
	return []rune{math.MinInt32, -0x10ffff, -2, -1, 0, 1, '\n', 'a', 0x7f, 0x80, 0x7ff, 0x800, 0xd7ff, 0xd800, 0xd801, 0xdbff, 0xdc00, 0xdffe, 0xdfff, 0xe000, 0xfffd, 0xffff, 0x10000, 0x10fffe, 0x10ffff, 0x110000, 0x110001, math.MaxInt32}
}

// try holds Right, and Do and Knows of a paper, against the document's words.
func try(t *testing.T, o api.Op) {
	t.Helper()
	want := may(o)
	if got := paper.Right(o); got != want {
		t.Fatalf("Right of %v: %t, want %t", o, got, want)
	}
	p := paper.New()
	e := p.Do(o)
	if e != api.OK && e != api.ErrArg || (e == api.OK) != want || p.Knows(o) != want || len(p.Ops()) > 0 != want {
		t.Fatalf("Do of %v: error %d, known: %t", o, e, p.Knows(o))
	}
}

// P18.1: what may be: each part at its edges, the others being as they may be; and two parts at theirs.
func TestRight(t *testing.T) {
	for _, good := range goods() {
		if !paper.Right(good) {
			t.Fatalf("%v may not be", good)
		}
		for i := range numbers(&good) {
			for _, n := range edges() {
				o := good
				*numbers(&o)[i] = n
				try(t, o)
				for k := range i {
					for _, n := range []int{math.MinInt, -1, 0, 1, 4, 5, top, top + 1} {
						two := o
						*numbers(&two)[k] = n
						try(t, two)
					}
				}
				for k := range flags(&o) {
					two := o
					*flags(&two)[k] = !*flags(&two)[k]
					try(t, two)
				}
			}
		}
		for _, c := range runes() {
			o := good
			o.Insert.Rune = c
			try(t, o)
		}
		for k := range flags(&good) {
			o := good
			*flags(&o)[k] = !*flags(&o)[k]
			try(t, o)
		}
		for _, kind := range edges() {
			try(t, api.Op{Kind: kind})
		}
	}
}

// P18.1: what may be, and what may not, told by hand.
func TestKnownRight(t *testing.T) {
	m := api.Mark{Clock: 1, Name: 1}
	for _, o := range []api.Op{
		right(id(0, 1), none, 0), right(id(4, top), id(4, top-1), 0x10ffff), left(id(0, 1), id(0, 2), 0xd7ff), right(id(0, 1), id(0, 1), 0xe000),
		drop(id(0, 1)), drop(id(4, top)), mark(m),
		mark(api.Mark{Clock: top, Author: 4, From: behind(id(4, top)), To: ahead(id(0, 1)), Name: 4, Value: top}),
	} {
		if !paper.Right(o) {
			t.Errorf("%v may be", o)
		}
	}
	with := func(o api.Op, change func(*api.Op)) api.Op {
		change(&o)
		return o
	}
	for _, o := range []api.Op{
		{}, {Kind: 1}, {Kind: 2}, {Kind: 3}, {Kind: 4}, {Kind: -1},
		{Kind: 2, Insert: word("a")[0].Insert}, {Kind: 1, Drop: id(0, 1)}, {Kind: 1, Mark: m}, {Kind: 3, Drop: id(0, 1)},
		left(id(0, 1), none, 'a'), right(id(0, 0), none, 'a'), right(id(5, 1), none, 'a'), right(id(-1, 1), none, 'a'), right(id(0, top+1), none, 'a'),
		right(id(0, 1), id(1, 0), 'a'), right(id(0, 1), id(0, -1), 'a'), right(id(0, 1), id(5, 1), 'a'), right(id(0, 1), id(0, top+1), 'a'),
		right(id(0, 1), none, -1), right(id(0, 1), none, 0xd800), right(id(0, 1), none, 0xdfff), right(id(0, 1), none, 0x110000),
		drop(id(1, 0)), drop(id(5, 1)), drop(id(-1, 1)), drop(id(0, top+1)), drop(id(0, -1)),
		mark(api.Mark{Clock: 0, Name: 1}), mark(api.Mark{Clock: top + 1, Name: 1}), mark(api.Mark{Clock: 1, Author: 5, Name: 1}), mark(api.Mark{Clock: 1}),
		mark(api.Mark{Clock: 1, Name: 5}), mark(api.Mark{Clock: 1, Name: 1, Value: -1}), mark(api.Mark{Clock: 1, Name: 1, From: ahead(id(1, 0))}), mark(api.Mark{Clock: 1, Name: 1, To: behind(id(0, top+1))}),
		with(drop(id(0, 1)), func(o *api.Op) { o.Insert.Right = true }),
		with(drop(id(0, 1)), func(o *api.Op) { o.Insert.Rune = 1 }),
		with(drop(id(0, 1)), func(o *api.Op) { o.Mark.To.Behind = true }),
		with(mark(m), func(o *api.Op) { o.Insert.Rune = 1 }),
		with(mark(m), func(o *api.Op) { o.Drop.Author = 1 }),
		with(right(id(0, 1), none, 'a'), func(o *api.Op) { o.Drop.Author = 1 }),
		with(right(id(0, 1), none, 'a'), func(o *api.Op) { o.Mark.Value = 1 }),
	} {
		if paper.Right(o) {
			t.Errorf("%v may not be", o)
		}
	}
}

// number is a number's bytes, by the document's words.
func number(n int) []byte {
	return binary.AppendUvarint(nil, uint64(min(max(n, 0), top)))
}

func bit(yes bool) int {
	if yes {
		return 1
	}
	return 0
}

// form is a list's bytes: numbers, one behind the other.
func form(l ...api.Op) []byte {
	all := []int{len(l)}
	for _, o := range l {
		i, m := o.Insert, o.Mark
		all = append(all, o.Kind)
		switch o.Kind {
		case 1:
			all = append(all, i.ID.Author, i.ID.Count, i.Parent.Author, i.Parent.Count, bit(i.Right), int(i.Rune))
		case 2:
			all = append(all, o.Drop.Author, o.Drop.Count)
		case 3:
			all = append(all, m.Clock, m.Author)
			for _, a := range []api.Anchor{m.From, m.To} {
				all = append(all, a.ID.Author, a.ID.Count, bit(a.Behind))
			}
			all = append(all, m.Name, m.Value)
		}
	}
	var out []byte
	for _, n := range all {
		out = append(out, number(n)...)
	}
	return out
}

// puts holds Put of a list behind some bytes against its bytes.
func puts(t *testing.T, b []byte, l ...api.Op) {
	t.Helper()
	if got, want := paper.Put(b, l), slices.Concat(b, form(l...)); !bytes.Equal(got, want) {
		t.Fatalf("Put of %.300v: %.200x, want %.200x", l, got, want)
	}
}

// P18.1: bytes told by hand.
func TestKnownBytes(t *testing.T) {
	for _, c := range []struct {
		want string
		l    []api.Op
	}{
		{"00", nil},
		{"01" + "01" + "0001" + "0000" + "01" + "61", word("a")},
		{"02" + "01" + "0001" + "0000" + "01" + "61" + "01" + "0002" + "0001" + "01" + "62", word("ab")},
		{"01" + "01" + "048001" + "037f" + "00" + "ffff43", []api.Op{left(id(4, 128), id(3, 127), 0x10ffff)}},
		{"01" + "02" + "04808080808020", []api.Op{drop(id(4, top))}},
		{"01" + "03" + "0104" + "000001" + "000000" + "0100", []api.Op{mark(api.Mark{Clock: 1, Author: 4, From: behind(none), Name: 1})}},
		{"01" + "03" + "ac0200" + "020300" + "010501" + "048001", []api.Op{mark(api.Mark{Clock: 300, From: ahead(id(2, 3)), To: behind(id(1, 5)), Name: 4, Value: 128})}},
	} {
		if got := hex.EncodeToString(paper.Put(nil, c.l)); got != c.want {
			t.Errorf("Put of %v: %s, want %s", c.l, got, c.want)
		}
		b, _ := hex.DecodeString(c.want)
		r := wire.Read(b)
		if got := paper.Get(r, 2); !slices.Equal(got, c.l) || r.End() != api.OK {
			t.Errorf("Get of %s: %v, error %d", c.want, got, r.End())
		}
	}
}

// P18.1: Put of any list, of operations that may not be, too.
func TestPut(t *testing.T) {
	r := rand.New(rand.NewPCG(18, 1))
	puts(t, nil)
	puts(t, []byte{1, 2, 3})
	puts(t, nil, api.Op{}, api.Op{Kind: 4}, api.Op{Kind: -1}, api.Op{Kind: math.MaxInt}, api.Op{Kind: math.MinInt})
	full := api.Op{Insert: word("ab")[1].Insert, Drop: id(1, 2), Mark: api.Mark{Clock: 3, Author: 4, From: behind(id(2, 3)), To: behind(none), Name: 2, Value: 5}}
	for kind := -1; kind <= 5; kind++ {
		full.Kind = kind
		puts(t, []byte{7}, full)
		puts(t, nil, full, full)
	}
	for _, good := range goods() {
		puts(t, nil, good)
		for i := range numbers(&good) {
			for _, n := range edges() {
				o := good
				*numbers(&o)[i] = n
				puts(t, []byte{9}, o, good)
			}
		}
		for _, c := range runes() {
			o := good
			o.Insert.Rune = c
			puts(t, nil, good, o)
		}
	}
	for n := range 300 {
		puts(t, make([]byte, n%7), some(r, n, top)...)
	}
	puts(t, nil, some(r, 5000, 1<<30)...)
}

// gets holds Get of some bytes against a list, or an error; a list must be followed by the bytes that stand behind it.
func gets(t *testing.T, b []byte, n int, want []api.Op, wantE api.Errno, what ...any) {
	t.Helper()
	r := wire.Read(append(slices.Clone(b), 0x77))
	if wantE == api.ErrShort {
		r = wire.Read(b)
	}
	got := paper.Get(r, n)
	if !slices.Equal(got, want) || r.Err() != wantE {
		t.Fatalf("%v: Get of %.200x, at most %d: %.300v, error %d, want %.300v, error %d", what, b, n, got, r.Err(), want, wantE)
	}
	if wantE == api.OK && (r.Left() != 1 || r.Number(0, 200) != 0x77 || r.End() != api.OK) {
		t.Fatalf("%v: Get of %.200x: what stands behind is not left", what, b)
	}
	if wantE != api.OK && (r.Number(0, top) != 0 || len(paper.Get(r, n)) != 0 || r.Err() != wantE) {
		t.Fatalf("%v: Get of %.200x: the error has not stayed", what, b)
	}
}

// P18.7: Get of Put is the list, and each beginning of it is too short; and how many there may be.
func TestRoundTrip(t *testing.T) {
	r := rand.New(rand.NewPCG(18, 2))
	for i := range 60 {
		l := append(some(r, i%9, []int{3, 200, top}[i%3]), goods()[:i%7]...)
		b := form(l...)
		for _, n := range []int{len(l), len(l) + 1, room, top, math.MaxInt} {
			gets(t, b, n, l, api.OK, i)
		}
		for _, n := range []int{len(l) - 1, -1, math.MinInt} {
			if n < len(l) {
				gets(t, b, n, nil, api.ErrRange, i)
			}
		}
		for k := range b {
			gets(t, b[:k], top, nil, api.ErrShort, i, k)
		}
	}
	for _, n := range []int{127, 128, 129, 5000} {
		l := some(r, n, 1<<20)
		b := paper.Put([]byte("ahead"), l)
		gets(t, b[5:], n, l, api.OK, n)
		gets(t, b[5:], n-1, nil, api.ErrRange, n)
		gets(t, b[5:len(b)-1], n, nil, api.ErrShort, n)
	}
	gets(t, number(top), top, nil, api.ErrShort, "so many are told")
	gets(t, number(top), top-1, nil, api.ErrRange, "more are told")
}

// part is a number of an operation's bytes, with its range.
type part struct{ value, most int }

// parts is the numbers behind the kinds 1 to 3, of operations that may be.
func parts() [][]part {
	author, count, flag := part{3, 4}, part{500, top}, part{1, 1}
	anchor := []part{author, count, flag}
	return [][]part{
		{author, count, author, count, flag, {'x', 0x10ffff}},
		{author, count},
		slices.Concat([]part{count, author}, anchor, anchor, []part{{4, top}, {8, top}}),
	}
}

// P18.1: each number of an operation at the edges of its range, of which the wire tells; and behind each fault another one.
func TestRanges(t *testing.T) {
	for k, l := range parts() {
		for i, p := range l {
			for _, n := range []int{0, 1, p.most - 1, p.most, p.most + 1, p.most + 2, 2*p.most + 7, top, top + 1, 4*top - 1} {
				b := []byte{1, byte(k + 1)}
				for j, q := range l {
					value := q.value
					if j == i {
						value = n
					}
					b = binary.AppendUvarint(b, uint64(value))
				}
				want := api.ErrRange
				var list []api.Op
				if n <= p.most {
					list, want = known(k+1, l, i, n)
				}
				gets(t, b, 1, list, want, k, i, n)
			}
			b := []byte{1, byte(k + 1)}
			for _, q := range l[:i] {
				b = append(b, number(q.value)...)
			}
			gets(t, append(b, 0x80, 0), 1, nil, api.ErrForm, k, i, "a number of another form")
			gets(t, append(b, 0x80, 0x80, 0x80, 0x80, 0x80, 0x80, 1), 1, nil, api.ErrForm, k, i, "a number too long")
			gets(t, append(b, 0xff, 0xff, 0xff, 0xff, 0xff, 0x7f, 0x80, 0), 1, nil, api.ErrRange, k, i, "a number too great, ahead of one of another form")
			gets(t, b, 1, nil, api.ErrShort, k, i, "nothing more")
			gets(t, append(b, 0x80), 1, nil, api.ErrShort, k, i, "a number's beginning")
		}
	}
	for _, kind := range []int{0, 4, 5, 127, 128, top, top + 1} {
		gets(t, slices.Concat([]byte{1}, binary.AppendUvarint(nil, uint64(kind)), make([]byte, 20)), 9, nil, api.ErrRange, "kind", kind)
	}
	gets(t, []byte{0x80, 0}, 9, nil, api.ErrForm, "how many, in another form")
	gets(t, nil, 9, nil, api.ErrShort, "nothing")
	gets(t, []byte{0}, 0, nil, api.OK, "an empty list")
	gets(t, []byte{0}, -1, nil, api.ErrRange, "fewer than none")
}

// known is an operation of a kind and some numbers, of which the i-th is another one, as a list, if it may be.
func known(kind int, l []part, i, n int) ([]api.Op, api.Errno) {
	var v []int
	for _, p := range l {
		v = append(v, p.value)
	}
	v[i] = n
	o := api.Op{Kind: kind}
	switch kind {
	case 1:
		o.Insert = api.Insert{ID: id(v[0], v[1]), Parent: id(v[2], v[3]), Right: v[4] == 1, Rune: rune(v[5])}
	case 2:
		o.Drop = id(v[0], v[1])
	case 3:
		o.Mark = api.Mark{Clock: v[0], Author: v[1], From: api.Anchor{ID: id(v[2], v[3]), Behind: v[4] == 1}, To: api.Anchor{ID: id(v[5], v[6]), Behind: v[7] == 1}, Name: v[8], Value: v[9]}
	}
	if !may(o) {
		return nil, api.ErrForm
	}
	return []api.Op{o}, api.OK
}

// P18.1: what was read, and may not be, is told as soon as it was read: ahead of what is wrong behind it, and behind what is wrong ahead of it.
func TestForm(t *testing.T) {
	bad := []api.Op{
		right(id(0, 0), none, 'a'), right(id(4, 0), none, 'a'), left(id(0, 1), none, 'a'), right(id(0, 1), id(1, 0), 'a'),
		right(id(0, 1), none, 0xd800), right(id(0, 1), none, 0xdfff), drop(none), drop(id(3, 0)),
		mark(api.Mark{Name: 1}), mark(api.Mark{Clock: 1}), mark(api.Mark{Clock: 1, Name: 5}), mark(api.Mark{Clock: 1, Name: top}),
		mark(api.Mark{Clock: 1, Name: 1, From: ahead(id(1, 0))}), mark(api.Mark{Clock: 1, Name: 1, To: behind(id(4, 0))}),
	}
	for _, o := range bad {
		for _, good := range goods() {
			gets(t, form(o), 1, nil, api.ErrForm, o)
			gets(t, form(good, good, o, good), 4, nil, api.ErrForm, o)
			gets(t, form(good, o, good, good), 3, nil, api.ErrRange, o)
			b := form(good, o, good)
			behind := len(form(good, o))
			gets(t, append(b[:behind:behind], 9), 3, nil, api.ErrForm, o, "ahead of a kind that is none")
			gets(t, append(b[:behind:behind], 0x80, 0), 3, nil, api.ErrForm, o, "ahead of a number of another form")
			r := wire.Read(b[:behind])
			if l := paper.Get(r, 3); len(l) != 0 || r.Err() != api.ErrForm {
				t.Errorf("%v, and then nothing: %v, error %d", o, l, r.Err())
			}
			gets(t, b[:behind-1], 3, nil, api.ErrShort, o, "not read whole")
		}
	}
}

// P18.1: of a reader that has an error, and of one that is none.
func TestReaders(t *testing.T) {
	r := wire.Read(form(goods()...))
	r.Fail(api.ErrSeal)
	if l := paper.Get(r, 9); len(l) != 0 || r.Err() != api.ErrSeal {
		t.Errorf("%v, error %d", l, r.Err())
	}
	for _, r := range []*wire.Reader{nil, {}} {
		if l := paper.Get(r, 9); len(l) != 0 || r.Err() != api.ErrForm {
			t.Errorf("no reader: %v, error %d", l, r.Err())
		}
	}
	two := slices.Concat(form(goods()...), form(word("abc")...))
	r = wire.Read(two)
	if a, b := paper.Get(r, 9), paper.Get(r, 3); !slices.Equal(a, goods()) || !slices.Equal(b, word("abc")) || r.End() != api.OK {
		t.Errorf("two lists: %v, %v, error %d", a, b, r.End())
	}
}

// P18.7: what is read, put again, is the bytes that were read, whichever they are.
func TestPutAgain(t *testing.T) {
	r := rand.New(rand.NewPCG(18, 3))
	read := 0
	for i := range 60000 {
		b := form(append(some(r, r.IntN(3), 3), goods()[r.IntN(6)])...)
		for range 1 + i%2 {
			b[r.IntN(len(b))] = byte(r.IntN([]int{6, 256}[i%2]))
		}
		x := wire.Read(b)
		l := paper.Get(x, 5)
		if x.Err() != api.OK {
			if len(l) != 0 {
				t.Fatalf("Get of %x: error %d, and %v", b, x.Err(), l)
			}
			continue
		}
		read++
		for _, o := range l {
			if !may(o) {
				t.Fatalf("Get of %x: %v", b, o)
			}
		}
		if got := paper.Put(nil, l); !bytes.Equal(got, b[:len(b)-x.Left()]) {
			t.Fatalf("Get of %x, put again: %x", b, got)
		}
	}
	if read < 5000 {
		t.Error("read", read)
	}
}

// P18.2, P18.8: one of a list that may not be, wherever it stands: nothing of the list is done.
func TestDoErrors(t *testing.T) {
	p, m := made(t, append(word("abc"), drop(id(0, 2)), right(id(1, 9), id(2, 2), 'z'), mark(api.Mark{Clock: 1, From: ahead(id(0, 1)), Name: 1, Value: 1}))...)
	for _, bad := range []api.Op{{}, {Kind: 4}, drop(none), left(id(3, 1), none, 'x'), right(id(0, 4), id(0, 3), 0xd800), right(id(5, 1), none, 'x'), mark(api.Mark{Clock: 2, Name: 5}), {Kind: 2, Drop: id(0, 1), Insert: api.Insert{Rune: 1}}} {
		for at := range goods() {
			if e := p.Do(slices.Insert(goods(), at, bad)...); e != api.ErrArg {
				t.Errorf("%v at %d: error %d", bad, at, e)
			}
		}
		if e := p.Do(append(word("abc"), bad)...); e != api.ErrArg {
			t.Errorf("%v behind what is known: error %d", bad, e)
		}
		if p.Do(bad) != api.ErrArg || p.Do(bad, bad) != api.ErrArg || p.Knows(bad) {
			t.Errorf("%v is known", bad)
		}
		holds(t, p, m, bad)
	}
	for _, o := range goods() {
		if p.Knows(o) {
			t.Errorf("%v is known", o)
		}
	}
	writes(t, p, m, "refused")
}

// P18.2: of several that are one the first is known, whatever the others say; in one call, and in several.
func TestFirstOfOne(t *testing.T) {
	a, b := id(0, 1), id(0, 2)
	for _, same := range [][]api.Op{
		{right(b, a, 'x'), right(b, a, 'y'), left(b, a, 'x'), right(b, none, 'x'), right(b, id(3, 3), 'x'), right(b, b, 'x')},
		{mark(api.Mark{Clock: 4, Author: 2, From: ahead(a), To: behind(a), Name: 1, Value: 7}), mark(api.Mark{Clock: 4, Author: 2, From: ahead(a), Name: 2, Value: 7}), mark(api.Mark{Clock: 4, Author: 2, From: behind(none), Name: 1, Value: 9})},
		{drop(a), drop(a)},
	} {
		for i, first := range same {
			for k, second := range same {
				p, m := made(t, right(a, none, 'a'), first, second)
				holds(t, p, m, first, second)
				q, n := made(t, right(a, none, 'a'), first)
				does(t, q, &n, second)
				does(t, q, &n, second, first, right(a, none, 'b'))
				holds(t, q, n, first, second)
				if !slices.Equal(q.Ops(), p.Ops()) || !slices.Contains(p.Ops(), first) || len(p.Ops()) != 2 || p.Text() != q.Text() {
					t.Errorf("%d, %d: %v", i, k, p.Ops())
				}
				if !p.Knows(second) {
					t.Errorf("%v, which is one with %v, is not known", second, first)
				}
			}
		}
	}
}

// P18.2: an insert, a drop and a mark of the same numbers are three; and two that are unlike in one number are two.
func TestKnows(t *testing.T) {
	for _, o := range goods() {
		p, m := made(t, o)
		for _, x := range goods() {
			for i := range numbers(&x) {
				for _, n := range []int{-1, 0, 1, 2, 3, 4, 5, 6, 7, 8, 9, top, top + 1} {
					y := x
					*numbers(&y)[i] = n
					if got, want := p.Knows(y), m.knows(y); got != want {
						t.Fatalf("%v known, Knows of %v: %t, want %t", o, y, got, want)
					}
				}
			}
			for _, c := range runes() {
				y := x
				y.Insert.Rune = c
				if got, want := p.Knows(y), m.knows(y); got != want {
					t.Fatalf("%v known, Knows of %v: %t, want %t", o, y, got, want)
				}
			}
		}
	}
	three := []api.Op{right(id(2, 3), none, 'a'), drop(id(2, 3)), mark(api.Mark{Clock: 2, Author: 3, Name: 1})}
	for i, o := range three {
		p, _ := made(t, o)
		for k, x := range three {
			if p.Knows(x) != (i == k) {
				t.Errorf("%v known, Knows of %v: %t", o, x, p.Knows(x))
			}
		}
	}
	p, m := made(t, slices.Concat(three, three)...)
	holds(t, p, m, "three")
}

// P18.2: all that are known, in one order, in whatever order they came.
func TestOps(t *testing.T) {
	want := []api.Op{
		right(id(0, 1), none, 'a'), right(id(0, top), id(0, 1), 'b'), right(id(1, 2), id(4, 9), 'c'), right(id(1, 10), none, 'd'), left(id(4, 1), id(1, 2), 'e'),
		drop(id(0, 1)), drop(id(0, 10)), drop(id(3, 2)), drop(id(4, 1)),
		mark(api.Mark{Clock: 1, Author: 4, Name: 1}), mark(api.Mark{Clock: 2, Author: 0, Name: 4}), mark(api.Mark{Clock: 2, Author: 3, Name: 2}), mark(api.Mark{Clock: 10, Name: 1}), mark(api.Mark{Clock: top, Author: 1, Name: 1}),
	}
	r := rand.New(rand.NewPCG(18, 4))
	for range 500 {
		l := slices.Clone(want)
		r.Shuffle(len(l), func(i, k int) { l[i], l[k] = l[k], l[i] })
		p, _ := made(t, l...)
		if got := p.Ops(); !slices.Equal(got, want) {
			t.Fatalf("%v: Ops: %v, want %v", l, got, want)
		}
		if p.Count(0) != top || p.Count(1) != 10 || p.Count(2) != 0 || p.Count(4) != 1 || p.Waiting() != 5 {
			t.Fatal("Count, Waiting:", p.Count(0), p.Count(1), p.Count(2), p.Count(4), p.Waiting())
		}
	}
}

// P18.2: 4096 operations are known, of whatever kinds, and 512 marks, and no more; each counts once.
func TestFull(t *testing.T) {
	var inserts, drops, marks []api.Op
	for i := range room {
		inserts = append(inserts, right(id(i%5, i+1), none, 'a'))
		drops = append(drops, drop(id(i%5, i+1)))
	}
	for i := range marked {
		marks = append(marks, mark(api.Mark{Clock: i/5 + 1, Author: i % 5, Name: 1, Value: i}))
	}
	more := mark(api.Mark{Clock: 1000, Name: 1})
	for _, l := range [][]api.Op{
		inserts,
		drops,
		slices.Concat(inserts[:room/2], drops[:room/2]),
		slices.Concat(inserts[:room-marked], marks),
		slices.Concat(inserts[:2000], drops[1000:room-marked-1000], marks),
	} {
		p := paper.New()
		if e := p.Do(slices.Concat(l, l)...); e != api.OK || len(p.Ops()) != room {
			t.Fatalf("%d known, error %d", len(p.Ops()), e)
		}
		ops, text, waits := p.Ops(), p.Text(), p.Waiting()
		for _, o := range []api.Op{right(id(0, top), none, 'z'), drop(id(4, top)), more} {
			if p.Do(o) != api.ErrFull || p.Do(l[0], o) != api.ErrFull || p.Do(append(slices.Clone(l), o)...) != api.ErrFull || p.Knows(o) {
				t.Errorf("%v is known", o)
			}
			if p.Do(o, api.Op{}) != api.ErrArg || p.Do(l...) != api.OK || p.Do(l[room-1], l[0]) != api.OK || p.Do() != api.OK {
				t.Errorf("%v: another error", o)
			}
			q := paper.New()
			if e := q.Do(append(slices.Clone(l), o)...); e != api.ErrFull || len(q.Ops()) != 0 || q.Len() != 0 || q.Waiting() != 0 {
				t.Errorf("%v at once: error %d, %d known", o, e, len(q.Ops()))
			}
			if q.Do(l[1:]...) != api.OK || q.Do(o, l[0]) != api.ErrFull || q.Do(o, o, o) != api.OK && o.Kind != 3 || q.Knows(l[0]) {
				t.Errorf("%v: one less", o)
			}
		}
		if !slices.Equal(p.Ops(), ops) || p.Text() != text || p.Waiting() != waits {
			t.Error("what was refused has changed something")
		}
	}
	p, m := made(t, append(word("abc"), marks...)...)
	for _, l := range [][]api.Op{{more}, {more, more}, {right(id(3, 1), none, 'z'), more}, append(slices.Clone(marks), more)} {
		if e, want := p.Do(l...), m.do(l...); e != api.ErrFull || want != api.ErrFull {
			t.Errorf("a mark more: error %d", e)
		}
	}
	does(t, p, &m, marks...)
	holds(t, p, m, "full of marks")
	does(t, p, &m, right(id(3, 1), none, 'z'))
	holds(t, p, m, "an insert more")
	p, m = made(t, marks[1:]...)
	does(t, p, &m, marks[0], more)
	does(t, p, &m, more, more)
	does(t, p, &m, marks[0])
	holds(t, p, m, "full of others")
}

// P18.2: what waits, told by hand.
func TestKnownWaiting(t *testing.T) {
	a, b, c := id(0, 1), id(0, 2), id(1, 1)
	p := paper.New()
	for _, s := range []struct {
		o     api.Op
		waits int
		text  string
	}{
		{right(b, a, 'b'), 1, ""},
		{drop(c), 2, ""},
		{right(id(2, 1), b, 'd'), 3, ""},
		{left(id(2, 2), b, 'e'), 4, ""},
		{right(id(3, 1), id(3, 2), 'x'), 5, ""}, // a ring, which waits for ever
		{right(id(3, 2), id(3, 1), 'y'), 6, ""},
		{right(id(4, 1), id(4, 1), 'z'), 7, ""}, // below itself
		{drop(id(4, 1)), 8, ""},
		{mark(api.Mark{Clock: 1, From: ahead(b), To: behind(c), Name: 1, Value: 1}), 8, ""}, // a mark is always there
		{right(a, none, 'a'), 5, "aebd"},
		{right(c, a, 'c'), 4, "aebd"}, // dropped at once
		{right(id(1, 2), c, 'f'), 4, "aebdf"},
		{drop(b), 4, "aedf"},
		{left(id(4, 2), id(4, 1), 'w'), 5, "aedf"},
	} {
		if e := p.Do(s.o); e != api.OK || p.Waiting() != s.waits || p.Text() != s.text || p.Len() != len(s.text) {
			t.Errorf("%v: error %d, waiting %d, want %d, text %q, want %q", s.o, e, p.Waiting(), s.waits, p.Text(), s.text)
		}
	}
	if r := p.Runs(); !slices.Equal(r, []api.Run{{Text: "ae"}, {Text: "d", Style: api.Style{0, 1}}, {Text: "f"}}) {
		t.Error("Runs:", r)
	}
}

// P18.2 to P18.4: operations out of chance, one by one and several at once: all that is told, and that would be written.
func TestChance(t *testing.T) {
	r := rand.New(rand.NewPCG(18, 5))
	for i := range 400 {
		p, m := paper.New(), model(nil)
		for range 1 + i%12 {
			does(t, p, &m, some(r, r.IntN(6), 2+i%7)...)
			holds(t, p, m, i)
		}
		writes(t, p, m, i)
	}
	for i := range 10 {
		p, m := made(t, some(r, 400, 30)...)
		holds(t, p, m, i, "many")
		writes(t, p, m, i, "many")
	}
}

// P18.4: what is to be written into texts that several wrote; nothing is done by telling it.
func TestWrites(t *testing.T) {
	r := rand.New(rand.NewPCG(18, 6))
	for i := range 60 {
		p, m := grown(t, r, i%30)
		if p.Waiting() != 0 {
			t.Fatal("waiting:", p.Waiting())
		}
		writes(t, p, m, i)
		holds(t, p, m, i)
	}
}

// P18.4: Type, told by hand.
func TestKnownType(t *testing.T) {
	p, _ := made(t, word("abc")...)
	for _, s := range []struct {
		at, author int
		s          string
		want       []api.Op
		e          api.Errno
	}{
		{0, 0, "", nil, api.OK},
		{3, 4, "", nil, api.OK},
		{0, 0, "xy", []api.Op{left(id(0, 4), id(0, 1), 'x'), right(id(0, 5), id(0, 4), 'y')}, api.OK},
		{3, 0, "x", []api.Op{right(id(0, 4), id(0, 3), 'x')}, api.OK},
		{1, 2, "xyz", []api.Op{left(id(2, 1), id(0, 2), 'x'), right(id(2, 2), id(2, 1), 'y'), right(id(2, 3), id(2, 2), 'z')}, api.OK},
		{3, 1, "ä\x00€\U0010ffff", []api.Op{right(id(1, 1), id(0, 3), 'ä'), right(id(1, 2), id(1, 1), 0), right(id(1, 3), id(1, 2), '€'), right(id(1, 4), id(1, 3), 0x10ffff)}, api.OK},
		{3, 1, "\xff\xed\xa0\x80", []api.Op{right(id(1, 1), id(0, 3), 0xfffd), right(id(1, 2), id(1, 1), 0xfffd), right(id(1, 3), id(1, 2), 0xfffd), right(id(1, 4), id(1, 3), 0xfffd)}, api.OK},
		{4, 0, "", nil, api.ErrRange},
		{-1, 0, "x", nil, api.ErrRange},
		{math.MaxInt, 0, "x", nil, api.ErrRange},
		{math.MinInt, 0, "x", nil, api.ErrRange},
		{0, -1, "x", nil, api.ErrArg},
		{0, 5, "", nil, api.ErrArg},
		{0, math.MaxInt, "x", nil, api.ErrArg},
		{0, math.MinInt, "x", nil, api.ErrArg},
		{4, 5, strings.Repeat("x", 65), nil, api.ErrArg},
		{4, 4, strings.Repeat("x", 65), nil, api.ErrRange},
		{3, 4, strings.Repeat("x", 65), nil, api.ErrLong},
		{3, 4, strings.Repeat("x", 1<<20), nil, api.ErrLong},
		{3, 4, strings.Repeat("\xff", 65), nil, api.ErrLong},
	} {
		l, e := p.Type(s.at, s.s, s.author)
		tells(t, l, e, s.want, s.e, s.at, s.author, s.s)
	}
	l, e := p.Type(0, strings.Repeat("€", 64), 3)
	if e != api.OK || len(l) != 64 || l[63] != right(id(3, 64), id(3, 63), '€') {
		t.Errorf("64 runes: %d, error %d", len(l), e)
	}
}

// P18.4: counts go on from the greatest one that is known, one that waits, too, up to 2^40; a drop's counts nothing.
func TestCounts(t *testing.T) {
	for used := range 70 {
		p, m := made(t, right(id(2, top-used), id(1, 1), 'x'), drop(id(3, top)), right(id(1, 3), none, 'y'), mark(api.Mark{Clock: 1, Author: 4, From: ahead(id(4, top)), Name: 1}))
		for _, n := range []int{0, 1, used - 1, used, used + 1, 63, 64, 65} {
			s := strings.Repeat("z", max(n, 0))
			for author := range 5 {
				l, e := p.Type(0, s, author)
				want, wantE := m.typed(0, s, author)
				tells(t, l, e, want, wantE, used, n, author)
			}
		}
		l, e := p.Type(1, strings.Repeat("z", min(used, 64)), 2)
		if e != api.OK || used > 0 && l[0].Insert.ID != id(2, top-used+1) {
			t.Errorf("%d left: %v, error %d", used, l, e)
		}
		if l, e := p.Type(1, strings.Repeat("z", min(used, 63)+1), 2); used < 64 && (len(l) != 0 || e != api.ErrFull) {
			t.Errorf("%d left, and one more: %v, error %d", used, l, e)
		}
	}
	p, _ := made(t, right(id(2, top), none, 'x'))
	if l, e := p.Type(0, strings.Repeat("z", 65), 2); len(l) != 0 || e != api.ErrLong {
		t.Errorf("too long, and no room: %v, error %d", l, e)
	}
	if l, e := p.Type(2, "z", 2); len(l) != 0 || e != api.ErrRange {
		t.Errorf("nowhere, and no room: %v, error %d", l, e)
	}
}

// P18.4: Erase, told by hand, and at its edges.
func TestKnownErase(t *testing.T) {
	p, m := made(t, append(word(strings.Repeat("a", 100)), drop(id(0, 2)), drop(id(0, 4)), drop(id(0, 100)))...) // 97 are left
	for _, s := range []struct {
		at, n int
		want  []api.Op
		e     api.Errno
	}{
		{0, 0, nil, api.OK},
		{97, 0, nil, api.OK},
		{0, 1, []api.Op{drop(id(0, 1))}, api.OK},
		{0, 3, []api.Op{drop(id(0, 1)), drop(id(0, 3)), drop(id(0, 5))}, api.OK},
		{1, 2, []api.Op{drop(id(0, 3)), drop(id(0, 5))}, api.OK},
		{96, 1, []api.Op{drop(id(0, 99))}, api.OK},
		{97, 1, nil, api.ErrRange},
		{98, 0, nil, api.ErrRange},
		{-1, 1, nil, api.ErrRange},
		{-1, 0, nil, api.ErrRange},
		{0, -1, nil, api.ErrRange},
		{1, -1, nil, api.ErrRange},
		{0, 65, nil, api.ErrLong},
		{0, 97, nil, api.ErrLong},
		{32, 65, nil, api.ErrLong},
		{33, 65, nil, api.ErrRange},
		{0, 98, nil, api.ErrRange},
		{1, math.MaxInt, nil, api.ErrRange},
		{math.MaxInt, 1, nil, api.ErrRange},
		{math.MaxInt, math.MaxInt, nil, api.ErrRange},
		{math.MinInt, math.MinInt, nil, api.ErrRange},
		{math.MinInt, math.MaxInt, nil, api.ErrRange},
	} {
		l, e := p.Erase(s.at, s.n)
		tells(t, l, e, s.want, s.e, s.at, s.n)
	}
	l, e := p.Erase(33, 64)
	want, _ := m.erased(33, 64)
	tells(t, l, e, want, api.OK, "64 up to the end")
}

// P18.4: Paint, told by hand, and at its edges; a stretch may be longer than what is erased at once.
func TestKnownPaint(t *testing.T) {
	p, m := made(t, append(word(strings.Repeat("a", 100)), drop(id(0, 1)), drop(id(0, 3)), mark(api.Mark{Clock: 6, Author: 1, Name: 1}), mark(api.Mark{Clock: 2, Author: 4, Name: 1}))...)
	whole := api.Mark{Clock: 7, Author: 3, From: ahead(id(0, 2)), To: behind(id(0, 100)), Name: 2, Value: 9}
	two := whole
	two.From, two.To = ahead(id(0, 2)), behind(id(0, 4))
	one := two
	one.From, one.Author, one.Value, one.Name = ahead(id(0, 4)), 0, 0, 4
	last := api.Mark{Clock: 7, Author: 4, From: ahead(id(0, 100)), To: behind(id(0, 100)), Name: 1, Value: top}
	for _, s := range []struct {
		at, n, name, value, author int
		want                       []api.Op
		e                          api.Errno
	}{
		{0, 98, 2, 9, 3, []api.Op{mark(whole)}, api.OK},
		{0, 2, 2, 9, 3, []api.Op{mark(two)}, api.OK},
		{1, 1, 4, 0, 0, []api.Op{mark(one)}, api.OK},
		{97, 1, 1, top, 4, []api.Op{mark(last)}, api.OK},
		{0, 0, 2, 9, 3, nil, api.ErrRange},
		{98, 0, 2, 9, 3, nil, api.ErrRange},
		{98, 1, 2, 9, 3, nil, api.ErrRange},
		{0, 99, 2, 9, 3, nil, api.ErrRange},
		{-1, 1, 2, 9, 3, nil, api.ErrRange},
		{0, -1, 2, 9, 3, nil, api.ErrRange},
		{1, math.MaxInt, 2, 9, 3, nil, api.ErrRange},
		{math.MaxInt, 1, 2, 9, 3, nil, api.ErrRange},
		{math.MaxInt, math.MaxInt, 2, 9, 3, nil, api.ErrRange},
		{0, 1, 0, 9, 3, nil, api.ErrArg},
		{0, 1, 5, 9, 3, nil, api.ErrArg},
		{0, 1, math.MinInt, 9, 3, nil, api.ErrArg},
		{0, 1, 2, -1, 3, nil, api.ErrArg},
		{0, 1, 2, top + 1, 3, nil, api.ErrArg},
		{0, 1, 2, 9, -1, nil, api.ErrArg},
		{0, 1, 2, 9, 5, nil, api.ErrArg},
		{0, 0, 5, -1, 5, nil, api.ErrRange},
	} {
		l, e := p.Paint(s.at, s.n, s.name, s.value, s.author)
		tells(t, l, e, s.want, s.e, s.at, s.n, s.name, s.value, s.author)
	}
	does(t, p, &m, mark(api.Mark{Clock: top - 1, Name: 1}))
	l, e := p.Paint(0, 1, 1, 1, 4)
	want, _ := m.painted(0, 1, 1, 1, 4)
	tells(t, l, e, want, api.OK, "the last clock")
	does(t, p, &m, l...)
	l, e = p.Paint(0, 1, 1, 1, 3)
	tells(t, l, e, nil, api.ErrFull, "no clock is left")
	l, e = p.Paint(0, 1, 9, -1, 9)
	tells(t, l, e, nil, api.ErrFull, "no clock is left, and it may not be")
	l, e = p.Paint(0, 0, 1, 1, 3)
	tells(t, l, e, nil, api.ErrRange, "no clock is left, and nothing is to be painted")
	if _, e := p.Type(0, "a", 0); e != api.OK {
		t.Error("no clock is left: Type: error", e)
	}
}

// permutations gives all orders of n things.
func permutations(n int, do func([]int)) {
	var grow func(l, left []int)
	grow = func(l, left []int) {
		if len(left) == 0 {
			do(l)
		}
		for i, k := range left {
			grow(append(slices.Clone(l), k), slices.Concat(left[:i], left[i+1:]))
		}
	}
	left := make([]int, n)
	for i := range left {
		left[i] = i
	}
	grow(nil, left)
}

// distinct is those of a list no two of which are one.
func distinct(l []api.Op) model {
	var out model
	out.do(l...)
	return out
}

// same holds two papers against each other in all that they tell.
func same(t *testing.T, p, q *paper.Paper, what ...any) {
	t.Helper()
	if !slices.Equal(p.Ops(), q.Ops()) || p.Text() != q.Text() || p.Len() != q.Len() || p.Waiting() != q.Waiting() || !slices.Equal(p.Runs(), q.Runs()) {
		t.Fatalf("%v: %.300v: %q, and %.300v: %q", what, p.Ops(), p.Text(), q.Ops(), q.Text())
	}
	for at := range p.Len() + 1 {
		a, e := p.Type(at, "xy", at%5)
		b, d := q.Type(at, "xy", at%5)
		tells(t, a, e, b, d, what, "Type")
		a, e = p.Paint(at, 1, 1, 1, 1)
		b, d = q.Paint(at, 1, 1, 1, 1)
		tells(t, a, e, b, d, what, "Paint")
	}
	a, e := p.Erase(0, min(p.Len(), 64))
	b, d := q.Erase(0, min(q.Len(), 64))
	tells(t, a, e, b, d, what, "Erase")
}

// P18.5: six operations in all orders.
func TestAllOrders(t *testing.T) {
	r := rand.New(rand.NewPCG(18, 7))
	lists := []model{
		{right(id(0, 1), none, 'a'), right(id(0, 2), id(0, 1), 'b'), left(id(1, 1), id(0, 2), 'c'), right(id(2, 1), id(1, 1), 'd'), drop(id(1, 1)), mark(api.Mark{Clock: 1, From: ahead(id(0, 2)), To: behind(id(2, 1)), Name: 1, Value: 1})},
		{right(id(0, 1), none, 'a'), right(id(0, 2), id(0, 1), 'b'), right(id(1, 1), id(0, 1), 'c'), left(id(2, 1), id(0, 1), 'd'), left(id(1, 2), id(0, 1), 'e'), drop(id(0, 1))},
	}
	for len(lists) < 14 {
		if l := distinct(some(r, 20, 2)); len(l) >= 6 {
			lists = append(lists, l[:6])
		}
	}
	for i, l := range lists {
		first, _ := made(t, l...)
		permutations(len(l), func(order []int) {
			p, m := paper.New(), model(nil)
			for _, k := range order {
				does(t, p, &m, l[k])
				if p.Text() != text(m.nodes()) || p.Waiting() != m.waiting() {
					t.Fatalf("%d: %v: %q, waiting %d", i, m, p.Text(), p.Waiting())
				}
			}
			same(t, p, first, i, order)
		})
	}
}

// P18.5: many operations in some orders, in parts of all lengths, some of them more than once.
func TestSomeOrders(t *testing.T) {
	r := rand.New(rand.NewPCG(18, 8))
	for i := range 40 {
		var l model
		if i%2 == 0 {
			l = distinct(some(r, 150, 12))
		} else {
			_, l = grown(t, r, 60)
		}
		first, m := made(t, l...)
		holds(t, first, m, i)
		for range 8 {
			p, left := paper.New(), slices.Concat(l, l[:len(l)/2], l[:len(l)/3])
			r.Shuffle(len(left), func(a, b int) { left[a], left[b] = left[b], left[a] })
			for len(left) > 0 {
				k := 1 + r.IntN(min(len(left), 1+r.IntN(40)))
				if e := p.Do(left[:k]...); e != api.OK {
					t.Fatal("error", e)
				}
				left = left[k:]
			}
			same(t, p, first, i)
		}
	}
}

// P18.5: two write at one time, each on its own, and then hand one another what they wrote, the other way round.
func TestTwo(t *testing.T) {
	r := rand.New(rand.NewPCG(18, 9))
	for i := range 60 {
		start, m := grown(t, r, r.IntN(20))
		papers := []*paper.Paper{start.Clone(), start.Clone()}
		var wrote [2][]api.Op
		for range 40 {
			who := r.IntN(2)
			p := papers[who]
			at := r.IntN(p.Len() + 1)
			l, e := p.Type(at, "xyz"[:r.IntN(4)], 2*who)
			switch r.IntN(4) {
			case 0:
				l, e = p.Erase(at, min(r.IntN(4), p.Len()-at))
			case 1:
				if at < p.Len() {
					l, e = p.Paint(at, 1+r.IntN(p.Len()-at), 1+r.IntN(2), r.IntN(9), 2*who)
				}
			}
			if e != api.OK || p.Do(l...) != api.OK {
				t.Fatalf("%d: error %d", i, e)
			}
			wrote[who] = append(wrote[who], l...)
		}
		for who, p := range papers {
			l := wrote[1-who]
			slices.Reverse(l)
			for _, o := range l {
				if e := p.Do(o); e != api.OK {
					t.Fatalf("%d: %v: error %d", i, o, e)
				}
			}
			slices.Reverse(l)
			if p.Waiting() != 0 {
				t.Fatalf("%d: waiting %d", i, p.Waiting())
			}
		}
		same(t, papers[0], papers[1], i)
		m.do(slices.Concat(wrote[0], wrote[1])...)
		holds(t, papers[0], m, i)
		holds(t, start, distinct(start.Ops()), i, "what was cloned")
	}
}

// cell is a rune of a text, with its style.
type cell struct {
	c     rune
	style api.Style
}

func cells(p *paper.Paper) []cell {
	var out []cell
	for _, r := range p.Runs() {
		for _, c := range r.Text {
			out = append(out, cell{c, r.Style})
		}
	}
	return out
}

func letters(l []cell) string {
	var out []rune
	for _, c := range l {
		out = append(out, c.c)
	}
	return string(out)
}

// P18.6: what is typed, erased or painted at all places, and then done, is there, and nothing else has changed.
func TestWritten(t *testing.T) {
	r := rand.New(rand.NewPCG(18, 10))
	for i := range 80 {
		p, _ := grown(t, r, i%20)
		was := cells(p)
		n := len(was)
		for at := range n + 1 {
			for author := range 5 {
				s := "äxy"[:2+r.IntN(3)]
				q := p.Clone()
				l, e := q.Type(at, s, author)
				if e != api.OK || q.Do(l...) != api.OK || q.Waiting() != 0 {
					t.Fatalf("%d: Type at %d: error %d", i, at, e)
				}
				k := utf8.RuneCountInString(s)
				now := cells(q)
				if letters(now) != letters(was[:at])+s+letters(was[at:]) || !slices.Equal(slices.Delete(now, at, at+k), was) {
					t.Fatalf("%d: typed %q at %d: %q, and was %v", i, s, at, q.Text(), was)
				}
			}
			for k := range n - at + 1 {
				q := p.Clone()
				l, e := q.Erase(at, k)
				if k > 64 {
					continue
				}
				if e != api.OK || q.Do(l...) != api.OK {
					t.Fatalf("%d: Erase at %d of %d: error %d", i, at, k, e)
				}
				if now, want := cells(q), slices.Concat(was[:at], was[at+k:]); !slices.Equal(now, want) || len(l) != k {
					t.Fatalf("%d: erased at %d of %d: %v, want %v", i, at, k, now, want)
				}
				if k == 0 {
					continue
				}
				q = p.Clone()
				name, value := 1+k%4, k%3
				l, e = q.Paint(at, k, name, value, k%5)
				if e != api.OK || q.Do(l...) != api.OK {
					t.Fatalf("%d: Paint at %d of %d: error %d", i, at, k, e)
				}
				want := slices.Clone(was)
				for j := at; j < at+k; j++ {
					want[j].style[name] = value
				}
				if now := cells(q); !slices.Equal(now, want) {
					t.Fatalf("%d: painted at %d of %d: %v, want %v", i, at, k, now, want)
				}
			}
		}
	}
}

// P18.6: a long text that is typed, erased and painted, by turns, against a list of cells.
func TestLong(t *testing.T) {
	r := rand.New(rand.NewPCG(18, 11))
	p, want, marks := paper.New(), []cell(nil), 0
	for i := range 400 {
		at := r.IntN(len(want) + 1)
		rest := len(want) - at
		switch k := r.IntN(5); {
		case k == 0:
			n := r.IntN(min(rest, 64, 4096-len(p.Ops())) + 1)
			l, _ := p.Erase(at, n)
			p.Do(l...)
			want = slices.Delete(want, at, at+n)
		case k == 1 && rest > 0 && marks < marked && len(p.Ops()) < room:
			n, name, value := 1+r.IntN(rest), 1+r.IntN(names), r.IntN(5)
			l, _ := p.Paint(at, n, name, value, r.IntN(5))
			p.Do(l...)
			marks++
			for j := at; j < at+n; j++ {
				want[j].style[name] = value
			}
		default:
			n := min(r.IntN(30), room-len(p.Ops()))
			s := strings.Repeat(string(rune(0x61+i)), n)
			l, _ := p.Type(at, s, r.IntN(5))
			if e := p.Do(l...); e != api.OK {
				t.Fatal("error", e)
			}
			// What is put where a mark ends or begins may get its style or not: that is the marks' to say.
			now := cells(p)
			if len(now) != len(want)+n {
				t.Fatalf("%d: %d cells, want %d", i, len(now), len(want)+n)
			}
			var mine []cell
			for j := range n {
				mine = append(mine, cell{rune(0x61 + i), now[at+j].style})
			}
			want = slices.Insert(want, at, mine...)
		}
		if now := cells(p); !slices.Equal(now, want) || p.Len() != len(want) || p.Text() != letters(want) {
			t.Fatalf("%d: %.300v, want %.300v", i, now, want)
		}
	}
	if len(p.Ops()) < 3000 {
		t.Error("operations:", len(p.Ops()))
	}
}

// P18.2, P18.3: as great as a text may be: deep and broad ones that come the other way round, one by one and at once.
func TestGreat(t *testing.T) {
	for name, parent := range map[string]func(i int) api.ID{
		"deep":  func(i int) api.ID { return id(0, i) },
		"broad": func(i int) api.ID { return id(0, 1) },
		"half":  func(i int) api.ID { return id(0, (i+1)/2) },
		"none":  func(i int) api.ID { return id(1, 1) }, // which never comes
	} {
		l := []api.Op{right(id(0, 1), none, 'a')}
		for i := 1; len(l) < room-marked-10; i++ {
			o := right(id(0, i+1), parent(i), rune('a'+i%26))
			o.Insert.Right = i%3 > 0
			l = append(l, o)
		}
		for i := range marked {
			l = append(l, mark(api.Mark{Clock: i + 1, From: ahead(id(0, i+1)), To: behind(id(0, 3*i+1)), Name: 1 + i%4, Value: i}))
		}
		for i := range 10 {
			l = append(l, drop(id(0, 300*i+1)))
		}
		slices.Reverse(l)
		m := distinct(l)
		p := paper.New()
		for _, o := range l {
			if e := p.Do(o); e != api.OK {
				t.Fatal(name, "error", e)
			}
		}
		holds(t, p, m, name, "one by one")
		q, _ := made(t, l...)
		holds(t, q, m, name, "at once")
		holds(t, q.Clone(), m, name, "a clone")
		if e := q.Do(drop(id(4, 1))); e != api.ErrFull {
			t.Error(name, "one more: error", e)
		}
	}
}

// P18.4: a clone is just so, with what waits, and neither knows of the other.
func TestClone(t *testing.T) {
	r := rand.New(rand.NewPCG(18, 12))
	for i := range 150 {
		p, m := made(t, some(r, i%40, 4)...)
		q, n := p.Clone(), slices.Clone(m)
		holds(t, q, n, i, "a clone")
		for k := range 30 {
			one, other := p, &m
			if k%2 == 1 {
				one, other = q, &n
			}
			does(t, one, other, some(r, r.IntN(3), 5)...)
		}
		holds(t, p, m, i, "what was cloned")
		holds(t, q, n, i, "the clone")
		writes(t, q, n, i, "the clone")
		holds(t, q.Clone().Clone(), n, i, "the clone's clone's clone")
	}
	// Several wait for one: what comes to wait later is its own paper's alone.
	p, m := made(t, right(id(0, 2), id(0, 1), 'b'), right(id(0, 3), id(0, 1), 'c'), right(id(0, 4), id(0, 1), 'd'))
	q, n := p.Clone(), slices.Clone(m)
	does(t, p, &m, right(id(0, 5), id(0, 1), 'e'))
	does(t, q, &n, right(id(0, 6), id(0, 1), 'f'))
	does(t, p, &m, right(id(0, 1), none, 'a'))
	does(t, q, &n, right(id(0, 1), none, 'A'))
	holds(t, p, m, "what was cloned")
	holds(t, q, n, "the clone")
	if p.Text() != "abcde" || q.Text() != "Abcdf" {
		t.Error("Text:", p.Text(), q.Text())
	}
}

// P18.4: of a nil paper; one that New did not make makes no call panic, either.
func TestNil(t *testing.T) {
	var no *paper.Paper
	if no.Clone() != nil {
		t.Error("nil has a clone")
	}
	for _, p := range []*paper.Paper{no, {}, new(paper.Paper).Clone()} {
		for _, l := range [][]api.Op{nil, goods(), {{}}, word("abc"), {{Kind: 9}, drop(id(0, 1))}} {
			if e := p.Do(l...); e != api.ErrNone && p == nil {
				t.Errorf("Do of %v: error %d", l, e)
			}
		}
		for _, o := range append(goods(), api.Op{}, drop(id(0, 1))) {
			if p.Knows(o) {
				t.Errorf("%v is known", o)
			}
		}
		if len(p.Ops()) != 0 || p.Waiting() != 0 || p.Len() != 0 || p.Text() != "" || len(p.Runs()) != 0 || p.Count(0) != 0 || p.Count(7) != 0 {
			t.Error("no paper has something")
		}
		for _, at := range append(edges(), 0) {
			for author := -2; author <= 6; author++ {
				for _, s := range []string{"", "x", strings.Repeat("x", 65)} {
					want := api.ErrRange
					if author < 0 || author > 4 {
						want = api.ErrArg
					}
					l, e := p.Type(at, s, author)
					tells(t, l, e, nil, want, "Type", at, len(s), author)
				}
			}
			for _, n := range edges() {
				l, e := p.Erase(at, n)
				tells(t, l, e, nil, api.ErrRange, "Erase", at, n)
				l, e = p.Paint(at, n, 1, 1, 1)
				tells(t, l, e, nil, api.ErrRange, "Paint", at, n)
				l, e = p.Paint(at, n, 9, -1, 9)
				tells(t, l, e, nil, api.ErrRange, "Paint", at, n)
			}
		}
	}
}

// spoil writes over a list, and over the room behind it.
func spoil[T any](l []T, by T) {
	l = l[:cap(l)]
	for i := range l {
		l[i] = by
	}
}

// What is handed in is neither changed nor kept, the room behind it included; each answer is new memory.
func TestMemory(t *testing.T) {
	r := rand.New(rand.NewPCG(18, 13))
	other := api.Op{Kind: 2, Drop: id(4, 77)}
	for size := range 40 {
		given := append(make([]api.Op, 0, 2*size+8), some(r, size, 6)...)
		spoil(given[size:], other)
		was := slices.Clone(given[:cap(given)])
		b := append(make([]byte, 0, 4096), "some"...)
		spoil(b[4:], 0x5a)
		room := slices.Clone(b[:cap(b)])

		p, m := paper.New(), distinct(given)
		if e := p.Do(given...); e != api.OK {
			t.Fatal("error", e)
		}
		put, again := paper.Put(b, given), paper.Put(b, given)
		if !slices.Equal(given[:cap(given)], was) || !bytes.Equal(b[:cap(b)], room) {
			t.Fatal(size, "what was handed in was changed")
		}
		spoil(put, 0x11)
		if !bytes.Equal(b[:cap(b)], room) || !bytes.Equal(again, slices.Concat(b, form(given...))) {
			t.Fatal(size, "bytes that were put share memory")
		}
		bytesGiven := form(given...)
		x := wire.Read(bytesGiven)
		one, two := paper.Get(x, 4096), paper.Get(wire.Read(bytesGiven), 4096)
		spoil(one, other)
		if !slices.Equal(two, given) || !bytes.Equal(bytesGiven, form(given...)) {
			t.Fatal(size, "lists that were read share memory")
		}

		spoil(given, other)
		c := p.Clone()
		n := p.Len()
		ops, runs := p.Ops(), p.Runs()
		typed, _ := p.Type(n/2, "abc", 1)
		erased, _ := p.Erase(0, n)
		painted, e := p.Paint(0, n, 1, 1, 1)
		wantTyped, _ := m.typed(n/2, "abc", 1)
		wantErased, _ := m.erased(0, n)
		wantPainted, wantE := m.painted(0, n, 1, 1, 1)
		spoil(p.Ops(), other)
		spoil(p.Runs(), api.Run{Text: "z"})
		for range 2 {
			l, _ := p.Type(n/2, "abc", 1)
			spoil(l, other)
			l, _ = p.Erase(0, n)
			spoil(l, other)
			l, _ = p.Paint(0, n, 1, 1, 1)
			spoil(l, other)
		}
		tells(t, typed, api.OK, wantTyped, api.OK, size, "Type")
		tells(t, erased, api.OK, wantErased, api.OK, size, "Erase")
		tells(t, painted, e, wantPainted, wantE, size, "Paint")
		if !slices.Equal(ops, m.ops()) || !slices.Equal(runs, m.runs()) {
			t.Fatal(size, "two answers share memory")
		}
		holds(t, p, m, size, "all was changed")
		holds(t, c, m, size, "the clone")
		writes(t, p, m, size, "all was changed")
	}
}

// What asks changes nothing: the same is told twice, whatever is asked in between; and the same calls make the same paper.
func TestAsking(t *testing.T) {
	var papers [2]*paper.Paper
	for i := range papers {
		r := rand.New(rand.NewPCG(18, 14))
		p, m := made(t, some(r, 200, 15)...)
		for range 3 {
			holds(t, p, m, "asked")
			writes(t, p, m, "asked")
		}
		papers[i] = p
	}
	same(t, papers[0], papers[1], "the same calls")
	for range 20 {
		if !slices.Equal(papers[0].Ops(), papers[1].Ops()) {
			t.Fatal("the same calls, and two orders")
		}
	}
}
