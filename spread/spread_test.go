package spread_test

import (
	"math"
	"slices"
	"testing"

	"earshot/api"
	"earshot/spread"
	"earshot/tagbook"
)

// of makes a set without the help of package idset, so that the tests hang on none of its calls.
func of(ids ...int) api.Set {
	var s api.Set
	for _, id := range ids {
		s[id/32] |= 1 << (id % 32)
	}
	return s
}

func mistake(of, tag int) api.Notice { return api.Notice{Of: of, Tag: tag, Kind: api.Mistake} }

func suspicion(of, tag int) api.Notice { return api.Notice{Of: of, Tag: tag, Kind: api.Suspicion} }

// far are numbers that are no ids.
func far() []int {
	return []int{math.MinInt, math.MinInt + 1, -1 << 62, -1 << 32, -100, -2, -1, api.MaxNodes, 128, 1 << 32, 1<<32 + 1, 1 << 62, math.MaxInt - 1, math.MaxInt}
}

// edges are counts of nodes about which the words of a set turn.
func edges() []int {
	return []int{1, 2, 3, 31, 32, 33, 63, 64, 65, 95, 96, 97, 99, api.MaxNodes}
}

// book makes a book that has just these notices, which are of 0, 1, and so on.
func book(t testing.TB, notices ...api.Notice) *tagbook.Book {
	t.Helper()
	b := fresh(t, len(notices))
	if _, e := b.Merge(notices); e != api.OK || !slices.Equal(b.List(), notices) {
		t.Fatalf("a book of %v: %v, error %d", notices, b.List(), e)
	}
	return b
}

// fresh makes a book of n nodes that has taken nothing.
func fresh(t testing.TB, n int) *tagbook.Book {
	t.Helper()
	b, e := tagbook.New(n, 0, 0)
	if e != api.OK {
		t.Fatalf("New(%d, 0, 0): error %d", n, e)
	}
	return b
}

// twins tells a twin of each book, to hold against what becomes of it.
func twins(books ...*tagbook.Book) []*tagbook.Book {
	var l []*tagbook.Book
	for _, b := range books {
		l = append(l, b.Twin())
	}
	return l
}

// unchanged holds that books are as their twins were.
func unchanged(t testing.TB, what string, books, were []*tagbook.Book) {
	t.Helper()
	for i, b := range books {
		if !b.Same(were[i]) {
			t.Errorf("%s: the book %v is %v now", what, were[i].List(), b.List())
		}
	}
}

// rides holds what a book's note carries, and that the book stays as it was.
func rides(t testing.TB, b *tagbook.Book, want ...api.Notice) {
	t.Helper()
	was := twins(b)
	if got := spread.Ride(b); !slices.Equal(got, want) {
		t.Errorf("Ride of %v: %v, not %v", b.List(), got, want)
	}
	unchanged(t, "Ride", []*tagbook.Book{b}, was)
}

// absorbs holds of which nodes a book has another notice behind an Absorb, which one, and that the list stays as it was.
func absorbs(t testing.TB, b *tagbook.Book, self int, l []api.Notice, want api.Set, list ...api.Notice) {
	t.Helper()
	was, handed := b.List(), slices.Clone(l)
	if got, e := spread.Absorb(b, self, l); got != want || e != api.OK {
		t.Errorf("Absorb(%v, %d, %v): %v, error %d, not %v", was, self, handed, got, e, want)
	}
	if !slices.Equal(b.List(), list) {
		t.Errorf("Absorb(%v, %d, %v): the book has %v, not %v", was, self, handed, b.List(), list)
	}
	if !slices.Equal(l, handed) {
		t.Errorf("Absorb(%v, %d, %v): the list is %v now", was, self, handed, l)
	}
}

// refuses holds that an Absorb answers ErrNotice, and takes nothing.
func refuses(t testing.TB, b *tagbook.Book, self int, l ...api.Notice) {
	t.Helper()
	was := twins(b)
	if got, e := spread.Absorb(b, self, l); got != (api.Set{}) || e != api.ErrNotice {
		t.Errorf("Absorb(%v, %d, %v): %v, error %d, not ErrNotice", was[0].List(), self, l, got, e)
	}
	unchanged(t, "Absorb", []*tagbook.Book{b}, was)
}

// above holds what is above of two books, and that they stay as they were.
func above(t testing.TB, a, b *tagbook.Book, want ...api.Notice) {
	t.Helper()
	was := twins(a, b)
	if got, e := spread.Above(a, b); !slices.Equal(got, want) || e != api.OK {
		t.Errorf("Above(%v, %v): %v, error %d, not %v", a.List(), b.List(), got, e, want)
	}
	unchanged(t, "Above", []*tagbook.Book{a, b}, was)
}

// notAbove holds that Above answers ErrArg.
func notAbove(t testing.TB, a, b *tagbook.Book) {
	t.Helper()
	was := twins(a, b)
	if got, e := spread.Above(a, b); len(got) != 0 || e != api.ErrArg {
		t.Errorf("Above(%v, %v): %v, error %d, not ErrArg", a.List(), b.List(), got, e)
	}
	unchanged(t, "Above", []*tagbook.Book{a, b}, was)
}

// level holds what is level of some books, and that they stay as they were.
func level(t testing.TB, books []*tagbook.Book, want ...api.Notice) {
	t.Helper()
	was, handed := twins(books...), slices.Clone(books)
	if got, e := spread.Level(books...); !slices.Equal(got, want) || e != api.OK {
		t.Errorf("Level of %d books: %v, error %d, not %v", len(books), got, e, want)
	}
	unchanged(t, "Level", books, was)
	if !slices.Equal(books, handed) {
		t.Errorf("Level of %d books: others are in the list now", len(books))
	}
}

// notLevel holds that Level answers ErrArg.
func notLevel(t testing.TB, books ...*tagbook.Book) {
	t.Helper()
	was := twins(books...)
	if got, e := spread.Level(books...); len(got) != 0 || e != api.ErrArg {
		t.Errorf("Level of %d books: %v, error %d, not ErrArg", len(books), got, e)
	}
	unchanged(t, "Level", books, was)
}

// several makes a list of books.
func several(books ...*tagbook.Book) []*tagbook.Book { return books }

// news makes a list of notices with spare room behind it.
func news(l ...api.Notice) []api.Notice { return append(make([]api.Notice, 0, len(l)+3), l...) }

func TestExamples(t *testing.T) {
	a := book(t, mistake(0, 0), suspicion(1, 2), mistake(2, 0))
	b := book(t, suspicion(0, 0), mistake(1, 2), mistake(2, 1))
	rides(t, a, suspicion(1, 2))
	above(t, a, b, suspicion(1, 2))
	above(t, b, a, suspicion(0, 0), mistake(2, 1))
	level(t, several(a, b), suspicion(0, 0), suspicion(1, 2), mistake(2, 1))
	absorbs(t, a, 0, news(suspicion(0, 0), mistake(2, 1)), of(0, 2), suspicion(0, 0), suspicion(1, 2), mistake(2, 1))
	absorbs(t, a, 0, news(mistake(0, 9)), of(), suspicion(0, 0), suspicion(1, 2), mistake(2, 1))
	refuses(t, a, 0, mistake(3, 0))
	notLevel(t)
	notAbove(t, a, fresh(t, 2))
}

func TestP1601Ride(t *testing.T) {
	for _, n := range edges() {
		rides(t, fresh(t, n))
		var all []api.Notice
		for id := range n {
			b := fresh(t, n)
			b.Take(suspicion(id, 0))
			rides(t, b, suspicion(id, 0))
			b.Take(mistake(id, 1))
			rides(t, b, mistake(id, 1))
			all = append(all, api.Notice{Of: id, Tag: 1 + id, Kind: api.Mistake + id%2})
		}
		rides(t, book(t, all...), all...)
	}
	b, _ := tagbook.New(3, 1, 4)
	rides(t, b, mistake(1, 4))
	rides(t, book(t, suspicion(0, 0), mistake(1, 0), mistake(2, api.MaxTag)), suspicion(0, 0), mistake(2, api.MaxTag))
	rides(t, nil)
	rides(t, &tagbook.Book{})
}

func TestP1601RideIsNewMemory(t *testing.T) {
	b := book(t, suspicion(0, 3), mistake(1, 5))
	l := spread.Ride(b)
	l[0], l[1] = mistake(0, 9), mistake(1, 9)
	l = append(l, mistake(2, 9))
	rides(t, b, suspicion(0, 3), mistake(1, 5))
}

func TestP1601Absorb(t *testing.T) {
	b := fresh(t, 3)
	absorbs(t, b, 0, nil, of(), mistake(0, 0), mistake(1, 0), mistake(2, 0))
	absorbs(t, b, 0, news(suspicion(1, 2)), of(1), mistake(0, 0), suspicion(1, 2), mistake(2, 0))
	// What is as great as what stands there, or lesser, is no other one.
	absorbs(t, b, 0, news(suspicion(1, 2), mistake(1, 2), suspicion(1, 1)), of(), mistake(0, 0), suspicion(1, 2), mistake(2, 0))
	absorbs(t, b, 0, news(mistake(2, 1), mistake(1, 3), suspicion(2, 0)), of(1, 2), mistake(0, 0), mistake(1, 3), mistake(2, 1))
	// In any order, and of one node several: the greatest stays.
	absorbs(t, b, 0, news(mistake(2, 9), suspicion(2, 4), mistake(2, 5)), of(2), mistake(0, 0), mistake(1, 3), mistake(2, 9))
	absorbs(t, b, 0, news(suspicion(2, api.MaxTag), mistake(1, api.MaxTag)), of(1, 2), mistake(0, 0), mistake(1, api.MaxTag), suspicion(2, api.MaxTag))
}

func TestP1601AbsorbPassesOwnMistakesOver(t *testing.T) {
	for self := range 3 {
		for _, tag := range []int{0, 1, 5, api.MaxTag} {
			b := fresh(t, 3)
			absorbs(t, b, self, news(mistake(self, tag)), of(), mistake(0, 0), mistake(1, 0), mistake(2, 0))
		}
		// They are passed over wherever they stand, also where they would beat a suspicion.
		b, other := fresh(t, 3), (self+1)%3
		want := b.List()
		want[self], want[other] = suspicion(self, 4), mistake(other, 7)
		absorbs(t, b, self, news(mistake(self, 9), suspicion(self, 4), mistake(self, 5), mistake(other, 7), mistake(self, 6)), of(self, other), want...)
		absorbs(t, b, self, news(mistake(self, 5), mistake(self, api.MaxTag)), of(), want...)
	}
}

func TestP1601AbsorbOwnSuspicions(t *testing.T) {
	for self := range 3 {
		for _, tag := range []int{0, 1, 5, api.MaxTag} {
			b := fresh(t, 3)
			want := b.List()
			want[self] = suspicion(self, tag)
			absorbs(t, b, self, news(suspicion(self, tag)), of(self), want...)
		}
	}
}

func TestP1601AbsorbSelfIsNoNode(t *testing.T) {
	for _, self := range append(far(), 3, 4, 99) {
		b := fresh(t, 3)
		absorbs(t, b, self, news(mistake(0, 1), mistake(1, 2), suspicion(2, 3)), of(0, 1, 2), mistake(0, 1), mistake(1, 2), suspicion(2, 3))
		refuses(t, b, self, mistake(self, 1))
	}
}

// TestP1601AbsorbSelfIsAsked: it is passed over whose mistakes are asked for, not of whom the book was made.
func TestP1601AbsorbSelfIsAsked(t *testing.T) {
	b, _ := tagbook.New(3, 1, 4)
	absorbs(t, b, 2, news(mistake(1, 6), mistake(2, 6)), of(1), mistake(0, 0), mistake(1, 6), mistake(2, 0))
}

// invalid are notices that are none of n nodes.
func invalid(n int) []api.Notice {
	l := []api.Notice{
		{}, {Tag: 1}, {Kind: 3}, {Kind: -1}, {Kind: math.MaxInt}, {Kind: math.MinInt},
		mistake(0, -1), suspicion(0, -1), mistake(0, api.MaxTag+1), suspicion(0, api.MaxTag+1), mistake(0, math.MaxInt), suspicion(0, math.MinInt),
		mistake(n, 0), suspicion(n, 0), mistake(n+1, 3),
	}
	for _, id := range far() {
		l = append(l, mistake(id, 0), suspicion(id, 7))
	}
	return l
}

func TestP1601AbsorbNotValid(t *testing.T) {
	for _, n := range []int{1, 3, 33, api.MaxNodes} {
		for _, x := range invalid(n) {
			b := fresh(t, n)
			last := n - 1
			for _, self := range []int{0, last, x.Of} {
				refuses(t, b, self, x)
				refuses(t, b, self, suspicion(last, 2), x)
				refuses(t, b, self, x, suspicion(last, 2))
				refuses(t, b, self, suspicion(0, 2), mistake(last, 3), x, suspicion(last, 5))
				refuses(t, b, self, mistake(self, 1), x)
			}
		}
	}
}

// TestP1601AbsorbNotValidOfSelf: what is passed over is looked at too.
func TestP1601AbsorbNotValidOfSelf(t *testing.T) {
	for self := range 3 {
		b := fresh(t, 3)
		other := (self + 1) % 3
		for _, tag := range []int{-1, math.MinInt, api.MaxTag + 1, math.MaxInt} {
			refuses(t, b, self, mistake(self, tag))
			refuses(t, b, self, suspicion(other, 2), mistake(self, tag))
			refuses(t, b, self, mistake(self, tag), suspicion(other, 2))
		}
	}
}

func TestP1601AbsorbOfNothing(t *testing.T) {
	for _, b := range several(nil, &tagbook.Book{}) {
		for _, self := range append(far(), 0, 1) {
			absorbs(t, b, self, nil, of())
			absorbs(t, b, self, news(), of())
			refuses(t, b, self, mistake(0, 0))
			refuses(t, b, self, suspicion(0, 1))
			refuses(t, b, self, mistake(self, 1))
			refuses(t, b, self, api.Notice{})
		}
	}
}

// TestP1601AbsorbKeepsNothing: neither the list nor its spare room is changed or kept.
func TestP1601AbsorbKeepsNothing(t *testing.T) {
	l := []api.Notice{mistake(0, 8), suspicion(1, 2), mistake(0, 9), mistake(2, 1), suspicion(2, 30), suspicion(1, 40)}
	was := slices.Clone(l)
	b := fresh(t, 3)
	absorbs(t, b, 0, l[:4], of(1, 2), mistake(0, 0), suspicion(1, 2), mistake(2, 1))
	if !slices.Equal(l, was) {
		t.Errorf("the list and what is behind it: %v, not %v", l, was)
	}
	for i := range l {
		l[i] = suspicion(1, 77)
	}
	if want := news(mistake(0, 0), suspicion(1, 2), mistake(2, 1)); !slices.Equal(b.List(), want) {
		t.Errorf("the book has %v, not %v", b.List(), want)
	}
}

func TestP1602Above(t *testing.T) {
	a := book(t, mistake(0, 3), suspicion(1, 3), mistake(2, 4), suspicion(3, api.MaxTag))
	b := book(t, suspicion(0, 2), mistake(1, 3), suspicion(2, 4), mistake(3, api.MaxTag))
	above(t, a, b, mistake(0, 3), suspicion(1, 3), suspicion(3, api.MaxTag))
	above(t, b, a, suspicion(2, 4))
	above(t, a, a)
	above(t, a, a.Twin())
	above(t, a, fresh(t, 4), a.List()...)
	above(t, fresh(t, 4), a)
	above(t, fresh(t, 4), fresh(t, 4))
}

func TestP1602AboveOfEachNode(t *testing.T) {
	for _, n := range edges() {
		for id := range n {
			a, b := fresh(t, n), fresh(t, n)
			a.Take(suspicion(id, 0))
			above(t, a, b, suspicion(id, 0))
			above(t, b, a)
			b.Take(mistake(id, 1))
			above(t, a, b)
			above(t, b, a, mistake(id, 1))
		}
	}
}

func TestP1602AboveUnlike(t *testing.T) {
	nothing := several(nil, &tagbook.Book{})
	for _, a := range nothing {
		for _, b := range nothing {
			above(t, a, b)
		}
	}
	for _, n := range edges() {
		b := fresh(t, n)
		b.Take(suspicion(0, 1))
		above(t, b, b)
		for _, m := range edges() {
			if m != n {
				notAbove(t, b, fresh(t, m))
			}
		}
		for _, o := range nothing {
			notAbove(t, b, o)
			notAbove(t, o, b)
		}
	}
}

func TestP1602Level(t *testing.T) {
	a := book(t, mistake(0, 3), suspicion(1, 3), mistake(2, 4), mistake(3, 0))
	b := book(t, suspicion(0, 2), mistake(1, 3), suspicion(2, 4), mistake(3, 0))
	c := book(t, suspicion(0, 3), mistake(1, 0), mistake(2, 5), mistake(3, 0))
	level(t, several(a), a.List()...)
	level(t, several(b), b.List()...)
	level(t, several(a, a, a.Twin()), a.List()...)
	level(t, several(a, b), mistake(0, 3), suspicion(1, 3), suspicion(2, 4), mistake(3, 0))
	level(t, several(b, a), mistake(0, 3), suspicion(1, 3), suspicion(2, 4), mistake(3, 0))
	for _, l := range [][]*tagbook.Book{{a, b, c}, {a, c, b}, {b, a, c}, {b, c, a}, {c, a, b}, {c, b, a}} {
		level(t, l, suspicion(0, 3), suspicion(1, 3), mistake(2, 5), mistake(3, 0))
	}
	level(t, several(fresh(t, 2), fresh(t, 2)), mistake(0, 0), mistake(1, 0))
}

// TestP1602LevelOfEachPlace: the greatest one counts, in whichever of the books it is, and of whichever node.
func TestP1602LevelOfEachPlace(t *testing.T) {
	for _, n := range edges() {
		for id := range n {
			for place := range 4 {
				books := several(fresh(t, n), fresh(t, n), fresh(t, n), fresh(t, n))
				want := books[0].List()
				for _, b := range books {
					b.Take(suspicion(id, 6))
				}
				want[id] = mistake(id, 7)
				books[place].Take(want[id])
				level(t, books, want...)
			}
		}
	}
}

func TestP1602LevelUnlike(t *testing.T) {
	notLevel(t)
	notLevel(t, several()...)
	a, b := fresh(t, 3), fresh(t, 2)
	a.Take(suspicion(1, 4))
	notLevel(t, a, b)
	notLevel(t, b, a)
	notLevel(t, a, a, b)
	notLevel(t, a, b, a)
	notLevel(t, b, a, a)
	notLevel(t, fresh(t, 4), a, b)
	for _, n := range edges() {
		for _, m := range edges() {
			if n != m {
				notLevel(t, fresh(t, n), fresh(t, n), fresh(t, m))
			}
		}
	}
	zero := &tagbook.Book{}
	for _, o := range several(nil, zero) {
		level(t, several(o))
		level(t, several(o, zero))
		level(t, several(o, nil, o))
		notLevel(t, a, o)
		notLevel(t, o, a)
		notLevel(t, o, o, a)
	}
}

func TestP1602NewMemory(t *testing.T) {
	a := book(t, suspicion(0, 3), mistake(1, 5))
	b := fresh(t, 2)
	x, _ := spread.Above(a, b)
	y, _ := spread.Level(a, b)
	z, _ := spread.Level(a)
	for _, l := range [][]api.Notice{x, y, z} {
		for i := range l {
			l[i] = mistake(7, 7)
		}
	}
	above(t, a, b, suspicion(0, 3), mistake(1, 5))
	level(t, several(a, b), suspicion(0, 3), mistake(1, 5))
	level(t, several(a), suspicion(0, 3), mistake(1, 5))
	// An answer stays, whatever the books take later on.
	x, _ = spread.Above(a, b)
	y, _ = spread.Level(a, b)
	a.Take(mistake(0, 4))
	b.Take(mistake(1, 9))
	want := news(suspicion(0, 3), mistake(1, 5))
	if !slices.Equal(x, want) || !slices.Equal(y, want) {
		t.Errorf("what was above and level: %v, %v, not %v", x, y, want)
	}
}
