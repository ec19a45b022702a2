package infer_test

import (
	"math"
	"slices"
	"testing"

	"earshot/api"
	"earshot/infer"
	"earshot/tagbook"
	"earshot/tally"
)

// of makes a set without the help of package idset, so that the tests hang on none of its calls. Ids from api.MaxNodes up to 127 make one that is not clean.
func of(ids ...int) api.Set {
	var s api.Set
	for _, id := range ids {
		s[id/32] |= 1 << (id % 32)
	}
	return s
}

// full is the set of 0 to n - 1.
func full(n int) api.Set {
	var s api.Set
	for id := range n {
		s[id/32] |= 1 << (id % 32)
	}
	return s
}

// in tells whether an id is in a set.
func in(s api.Set, id int) bool { return s[id/32]>>(id%32)&1 == 1 }

// every has all bits, those of no id too.
func every() api.Set {
	return api.Set{math.MaxUint32, math.MaxUint32, math.MaxUint32, math.MaxUint32}
}

// far are numbers that no count of nodes is.
func far() []int {
	return []int{math.MinInt, math.MinInt + 1, -1 << 62, -1 << 32, -100, -2, -1, 1 << 32, 1<<32 + 3, 1 << 62, math.MaxInt - 1, math.MaxInt}
}

// edges are counts of nodes about which the words of a set turn.
func edges() []int {
	return []int{1, 2, 3, 31, 32, 33, 63, 64, 65, 95, 96, 97, 99, api.MaxNodes}
}

func mistake(of, tag int) api.Notice { return api.Notice{Of: of, Tag: tag, Kind: api.Mistake} }

func suspicion(of, tag int) api.Notice { return api.Notice{Of: of, Tag: tag, Kind: api.Suspicion} }

// one is a replier and the set that it replied with.
type one struct {
	id    int
	heard api.Set
}

// gather makes a tally of n nodes in which these, and no others, have replied.
func gather(t testing.TB, n, f int, first one, rest ...one) *tally.Tally {
	t.Helper()
	x, e := tally.New(n, f, first.id, 7, first.heard)
	if e != api.OK {
		t.Fatalf("New(%d, %d, %d, 7, %v): error %d", n, f, first.id, first.heard, e)
	}
	for _, r := range rest {
		if kind, e := x.Take(r.id, 7, r.heard); kind != api.Counted || e != api.OK {
			t.Fatalf("Take(%d, 7, %v): %d, error %d", r.id, r.heard, kind, e)
		}
	}
	return x
}

// book makes a book that has just these notices, which are of 0, 1, and so on.
func book(t testing.TB, notices ...api.Notice) *tagbook.Book {
	t.Helper()
	b, e := tagbook.New(len(notices), 0, 0)
	if e != api.OK {
		t.Fatalf("New(%d, 0, 0): error %d", len(notices), e)
	}
	if _, e := b.Merge(notices); e != api.OK || !slices.Equal(b.List(), notices) {
		t.Fatalf("a book of %v: %v, error %d", notices, b.List(), e)
	}
	return b
}

func unites(t testing.TB, want api.Set, sets ...api.Set) {
	t.Helper()
	if got := infer.Union(sets...); got != want {
		t.Errorf("Union of %v: %v, not %v", sets, got, want)
	}
}

func knows(t testing.TB, x *tally.Tally, want api.Set) {
	t.Helper()
	if got := infer.Known(x); got != want {
		t.Errorf("Known: %v, not %v", got, want)
	}
}

func misses(t testing.TB, n int, x *tally.Tally, want api.Set) {
	t.Helper()
	if got, e := infer.Missing(n, x); got != want || e != api.OK {
		t.Errorf("Missing(%d, ..): %v, error %d, not %v", n, got, e, want)
	}
}

func missesNot(t testing.TB, n int, x *tally.Tally, want api.Errno) {
	t.Helper()
	if got, e := infer.Missing(n, x); got != (api.Set{}) || e != want {
		t.Errorf("Missing(%d, ..): %v, error %d, not %d", n, got, e, want)
	}
}

// doubts asks for doubts of a book, which must stay as it was.
func doubts(t testing.TB, b *tagbook.Book, missing api.Set, want ...api.Notice) {
	t.Helper()
	was := b.Twin()
	if got := infer.Doubts(b, missing); !slices.Equal(got, want) {
		t.Errorf("Doubts of %v, missing %v: %v, not %v", was.List(), missing, got, want)
	}
	if !b.Same(was) {
		t.Errorf("Doubts, missing %v: the book %v is %v now", missing, was.List(), b.List())
	}
}

func covers(t testing.TB, n, f int, want api.Set, sets ...api.Set) {
	t.Helper()
	if got, e := infer.Cover(n, f, sets...); got != want || e != api.OK {
		t.Errorf("Cover(%d, %d, %v): %v, error %d, not %v", n, f, sets, got, e, want)
	}
}

func coversNot(t testing.TB, n, f int, want api.Errno, sets ...api.Set) {
	t.Helper()
	if got, e := infer.Cover(n, f, sets...); got != (api.Set{}) || e != want {
		t.Errorf("Cover(%d, %d, %v): %v, error %d, not %d", n, f, sets, got, e, want)
	}
}

func TestExamples(t *testing.T) {
	unites(t, of(0, 2, 3), of(0), of(2), of(0, 3))
	unites(t, of())
	x := gather(t, 4, 1, one{2, of(0, 1, 2, 3)}, one{0, of(0)}, one{3, of(2, 3)})
	if kind, e := x.Take(1, 7, of(1)); kind != api.Late || e != api.OK {
		t.Fatalf("Take of one more: %d, error %d", kind, e)
	}
	knows(t, x, of(0, 1, 2, 3))
	misses(t, 4, x, of())
	misses(t, 4, gather(t, 4, 2, one{0, of(0)}, one{1, of(1, 2)}), of(3))
	early := gather(t, 4, 1, one{0, of()})
	missesNot(t, 4, early, api.ErrWaiting)
	missesNot(t, 0, early, api.ErrArg)
	doubts(t, book(t, mistake(0, 2), suspicion(1, 0), mistake(2, 0)), of(0, 1, 2), suspicion(0, 2), suspicion(2, 0))
	covers(t, 3, 1, of(1), of(0, 1), of(1, 2), of(1))
}

func TestP1401Union(t *testing.T) {
	unites(t, of(), []api.Set{}...)
	unites(t, of(), of())
	unites(t, of(5), of(5))
	unites(t, of(5), of(5), of(5), of(), of(5))
	unites(t, of(0, 31, 32, 63, 64, 95, 96, 99), of(0, 99), of(31, 96), of(32, 95), of(63, 64))
	unites(t, of(0, 31, 32, 63, 64, 95, 96, 99), of(63, 64), of(32, 95), of(31, 96), of(0, 99))
	// Each one counts, wherever it stands: the first one, one between, the last one.
	var sets []api.Set
	for id := range api.MaxNodes {
		sets = append(sets, of(id))
		unites(t, full(id+1), sets...)
	}
}

func TestP1401UnionIsClean(t *testing.T) {
	for id := api.MaxNodes; id < 128; id++ {
		unites(t, of(), of(id))
		unites(t, of(1), of(id), of(1))
		unites(t, of(1), of(1), of(id))
		unites(t, of(1), of(1, id), of(1, id))
	}
	unites(t, full(api.MaxNodes), every())
	unites(t, full(api.MaxNodes), of(), every())
}

func TestP1401UnionLeavesTheList(t *testing.T) {
	room := []api.Set{of(1, 127), of(2), every(), of(77), of(78)}
	was := slices.Clone(room)
	if got := infer.Union(room[:2]...); got != of(1, 2) || !slices.Equal(room, was) {
		t.Errorf("Union: %v; the list %v is %v now", got, was, room)
	}
}

func TestP1401Known(t *testing.T) {
	// The repliers are known though nobody has heard them.
	knows(t, gather(t, 5, 0, one{3, of()}), of(3))
	knows(t, gather(t, 5, 0, one{3, of()}, one{0, of()}, one{4, of()}), of(0, 3, 4))
	// And whom they have heard, whoever of them, though it has not replied.
	knows(t, gather(t, 5, 0, one{3, of(1)}), of(1, 3))
	knows(t, gather(t, 5, 0, one{3, of(1)}, one{0, of(2)}), of(0, 1, 2, 3))
	knows(t, gather(t, 5, 0, one{0, of()}, one{1, of(4)}, one{2, of()}), of(0, 1, 2, 4))
	knows(t, gather(t, 5, 0, one{0, of()}, one{1, of()}, one{2, of(4)}), of(0, 1, 2, 4))
	for _, n := range edges() {
		knows(t, gather(t, n, 0, one{n - 1, of()}), of(n-1))
		knows(t, gather(t, n, 0, one{0, of(n - 1)}), of(0, n-1))
		knows(t, gather(t, n, 0, one{n / 2, full(n)}), full(n))
	}
}

func TestP1401KnownIsOfWhatCounts(t *testing.T) {
	x := gather(t, 6, 4, one{0, of(0)}, one{1, of(1)})
	for _, c := range []struct {
		from, round int
		heard       api.Set
		kind        int
		e           api.Errno
	}{
		{2, 7, of(2, 3), api.Late, api.OK},
		{1, 7, of(4), api.Again, api.OK},
		{3, 6, of(5), api.Stale, api.OK},
		{6, 7, of(5), api.Alien, api.OK},
		{3, 7, of(6), 0, api.ErrHeard},
	} {
		if kind, e := x.Take(c.from, c.round, c.heard); kind != c.kind || e != c.e {
			t.Fatalf("Take(%d, %d, %v): %d, error %d", c.from, c.round, c.heard, kind, e)
		}
		knows(t, x, of(0, 1))
		misses(t, 6, x, of(2, 3, 4, 5))
	}
}

func TestP1401KnownOfNothing(t *testing.T) {
	knows(t, nil, of())
	knows(t, &tally.Tally{}, of())
}

func TestP1401KnownLeavesTheTally(t *testing.T) {
	x := gather(t, 4, 2, one{0, of(0)}, one{1, of(1, 2)})
	for range 2 {
		knows(t, x, of(0, 1, 2))
		misses(t, 4, x, of(3))
		if want := []api.Set{of(0), of(1, 2)}; !slices.Equal(x.Heards(), want) || x.Repliers() != of(0, 1) || !x.Ready() || x.Round() != 7 {
			t.Fatalf("the tally has %v of %v now", x.Heards(), x.Repliers())
		}
	}
}

func TestP1402Missing(t *testing.T) {
	// Nobody has heard anybody: all but the repliers.
	misses(t, 5, gather(t, 5, 4, one{3, of()}), of(0, 1, 2, 4))
	misses(t, 5, gather(t, 5, 2, one{3, of()}, one{0, of()}, one{4, of()}), of(1, 2))
	misses(t, 5, gather(t, 5, 2, one{3, of(1)}, one{0, of()}, one{4, of()}), of(2))
	misses(t, 5, gather(t, 5, 2, one{3, of()}, one{0, of(2)}, one{4, of()}), of(1))
	misses(t, 5, gather(t, 5, 2, one{3, of()}, one{0, of()}, one{4, of(1, 2)}), of())
	misses(t, 1, gather(t, 1, 0, one{0, of()}), of())
	for _, n := range edges() {
		misses(t, n, gather(t, n, n-1, one{0, full(n)}), of())
		for id := range n {
			want := full(n)
			want[id/32] &^= 1 << (id % 32)
			misses(t, n, gather(t, n, n-1, one{id, of()}), want)
		}
	}
}

// TestP1402MissingOfAnotherSize: n says who there is, whatever the tally's own size.
func TestP1402MissingOfAnotherSize(t *testing.T) {
	x := gather(t, 4, 2, one{0, of(0)}, one{1, of(1, 2)})
	misses(t, 1, x, of())
	misses(t, 3, x, of())
	misses(t, 5, x, of(3, 4))
	want := full(api.MaxNodes)
	want[0] &^= 7
	misses(t, api.MaxNodes, x, want)
	misses(t, 2, gather(t, api.MaxNodes, 99, one{99, of(1, 50)}), of(0))
}

func TestP1402Waiting(t *testing.T) {
	for _, n := range edges() {
		missesNot(t, n, nil, api.ErrWaiting)
		missesNot(t, n, &tally.Tally{}, api.ErrWaiting)
		if n == 1 {
			continue
		}
		// One reply is too few up to the very last one, though all are known.
		x := gather(t, n, 0, one{0, full(n)})
		for id := 1; id < n; id++ {
			missesNot(t, n, x, api.ErrWaiting)
			x.Take(id, 7, full(n))
		}
		misses(t, n, x, of())
	}
}

func TestP1402NoSize(t *testing.T) {
	ready, early := gather(t, 3, 2, one{0, of()}), gather(t, 3, 1, one{0, of()})
	for _, n := range append(far(), 0, 101, 127, 128) {
		// It goes ahead of waiting.
		for _, x := range []*tally.Tally{ready, early, {}, nil} {
			missesNot(t, n, x, api.ErrArg)
		}
	}
}

func TestP1403Doubts(t *testing.T) {
	b := book(t, mistake(0, 0), mistake(1, 4), suspicion(2, 4), mistake(3, api.MaxTag), suspicion(4, 0), suspicion(5, api.MaxTag))
	doubts(t, b, of())
	doubts(t, b, of(0), suspicion(0, 0))
	doubts(t, b, of(1), suspicion(1, 4))
	doubts(t, b, of(3), suspicion(3, api.MaxTag))
	// Who is suspected already is not doubted again, at no tag.
	doubts(t, b, of(2))
	doubts(t, b, of(2, 4, 5))
	doubts(t, b, full(6), suspicion(0, 0), suspicion(1, 4), suspicion(3, api.MaxTag))
	doubts(t, b, of(5, 3, 2, 0), suspicion(0, 0), suspicion(3, api.MaxTag))
}

func TestP1403IdsThatAreNotThere(t *testing.T) {
	b := book(t, mistake(0, 1), suspicion(1, 1), mistake(2, 0))
	for id := 3; id < 128; id++ {
		doubts(t, b, of(id))
		doubts(t, b, of(0, 1, id), suspicion(0, 1))
	}
	doubts(t, b, every(), suspicion(0, 1), suspicion(2, 0))
}

func TestP1403DoubtsOfAll(t *testing.T) {
	for _, n := range edges() {
		var notices, want []api.Notice
		for id := range n {
			notices = append(notices, mistake(id, 3*id))
			want = append(want, suspicion(id, 3*id))
		}
		b := book(t, notices...)
		doubts(t, b, full(n), want...)
		doubts(t, b, every(), want...)
		for id := range n {
			doubts(t, b, of(id), want[id])
		}
	}
}

// TestP1403TheBookTakesThem: behind that there is nothing to doubt any more.
func TestP1403TheBookTakesThem(t *testing.T) {
	b := book(t, mistake(0, 2), suspicion(1, 0), mistake(2, 0), mistake(3, 9))
	if raised, e := b.Merge(infer.Doubts(b, of(0, 1, 2))); raised != of(0, 2) || e != api.OK {
		t.Errorf("Merge of the doubts: %v, error %d", raised, e)
	}
	doubts(t, b, of(0, 1, 2))
	doubts(t, b, full(4), suspicion(3, 9))
	if b.Suspects() != of(0, 1, 2) {
		t.Errorf("Suspects: %v", b.Suspects())
	}
}

func TestP1403DoubtsOfNoBook(t *testing.T) {
	for _, missing := range []api.Set{of(), of(0), of(99), full(api.MaxNodes), every()} {
		doubts(t, nil, missing)
		doubts(t, &tagbook.Book{}, missing)
	}
}

func TestP1403DoubtsAreNewMemory(t *testing.T) {
	b := book(t, mistake(0, 2), mistake(1, 0), mistake(2, 0))
	x, y := infer.Doubts(b, full(3)), infer.Doubts(b, full(3))
	for i := range x {
		x[i] = mistake(9, 9)
	}
	_ = append(x[:1], mistake(8, 8), mistake(8, 8), mistake(8, 8))
	if want := []api.Notice{suspicion(0, 2), suspicion(1, 0), suspicion(2, 0)}; !slices.Equal(y, want) {
		t.Errorf("a list that was told is turned by another one: %v", y)
	}
	doubts(t, b, full(3), suspicion(0, 2), suspicion(1, 0), suspicion(2, 0))
}

func TestP1404Cover(t *testing.T) {
	// Of none nobody is in one.
	covers(t, 3, 0, of())
	covers(t, 3, 2, of())
	covers(t, 3, 0, of(0, 2), of(0), of(2))
	covers(t, 3, 1, of(), of(0), of(2))
	covers(t, 3, 1, of(2), of(0, 2), of(2))
	// Just f, just f + 1, more.
	covers(t, 4, 2, of(1, 2), of(0, 1, 2), of(0, 1, 2), of(1, 2), of(1))
	covers(t, 4, 3, of(1), of(0, 1, 2), of(0, 1, 2), of(1, 2), of(1))
	// One set that comes more than once counts each time; more sets than nodes may come.
	covers(t, 2, 1, of(1), of(1), of(1))
	covers(t, 1, 0, of(0), of(0), of(0), of(0))
	covers(t, 2, 1, of(), of(), of(), of())
	covers(t, 2, 1, of(0, 1), of(0), of(1), of(0), of(1), of())
	for _, n := range edges() {
		var sets []api.Set
		for f := range n {
			covers(t, n, f, of(), sets...)
			sets = append(sets, full(n))
			covers(t, n, f, full(n), sets...)
			covers(t, n, f, full(n), append(sets, of(), of(n-1))...)
		}
	}
}

// TestP1404EachIdCountsForItself: the id i is in i of the sets.
func TestP1404EachIdCountsForItself(t *testing.T) {
	for _, n := range edges() {
		var sets []api.Set
		for k := 1; k < n; k++ {
			s := full(n)
			for id := range k {
				s[id/32] &^= 1 << (id % 32)
			}
			sets = append(sets, s)
		}
		for f := range n {
			want := full(n)
			for id := range f + 1 {
				want[id/32] &^= 1 << (id % 32)
			}
			covers(t, n, f, want, sets...)
		}
	}
}

func TestP1404CoverOfManySets(t *testing.T) {
	// So many that a count of 8 or 16 bits would come round.
	sets := make([]api.Set, 1<<16+1)
	for i := range sets {
		sets[i] = of(7)
	}
	covers(t, 8, 7, of(7), sets[:1<<8]...)
	covers(t, 8, 7, of(7), sets[:1<<8+1]...)
	covers(t, 8, 7, of(7), sets[:1<<15]...)
	covers(t, 8, 7, of(7), sets[:1<<16]...)
	covers(t, 8, 7, of(7), sets...)
}

func TestP1404NoSize(t *testing.T) {
	for _, v := range append(far(), 0, 101, 127, 128) {
		coversNot(t, v, 0, api.ErrArg)
		coversNot(t, v, 0, api.ErrArg, of(0))
		coversNot(t, v, v, api.ErrArg)
		coversNot(t, v, v-1, api.ErrArg)
	}
	for _, v := range append(far(), 3, 4, 100) {
		coversNot(t, 3, v, api.ErrArg)
		coversNot(t, 3, v, api.ErrArg, of(0), of(1))
	}
	for _, n := range edges() {
		coversNot(t, n, n, api.ErrArg)
		coversNot(t, n, -1, api.ErrArg)
		covers(t, n, n-1, of())
	}
}

func TestP1404ASetThatCantBe(t *testing.T) {
	for _, n := range edges() {
		for id := n; id < 128; id++ {
			for _, s := range []api.Set{of(id), of(0, id), of(n-1, id)} {
				// Wherever it stands, and though f + 1 others say enough.
				coversNot(t, n, 0, api.ErrHeard, s)
				coversNot(t, n, n-1, api.ErrHeard, s)
				coversNot(t, n, 0, api.ErrHeard, s, of(0))
				coversNot(t, n, 0, api.ErrHeard, of(0), s)
				coversNot(t, n, 0, api.ErrHeard, of(0), s, of(0))
				// It goes behind ErrArg.
				coversNot(t, n, n, api.ErrArg, s)
				coversNot(t, n, -1, api.ErrArg, of(0), s)
				coversNot(t, 0, 0, api.ErrArg, s)
				coversNot(t, 101, 0, api.ErrArg, s)
			}
		}
		coversNot(t, n, 0, api.ErrHeard, every())
		coversNot(t, n, 0, api.ErrHeard, full(n), full(n), every())
	}
}

func TestP1404CoverLeavesTheList(t *testing.T) {
	room := []api.Set{of(1), of(1, 2), every(), of(77), of(78)}
	was := slices.Clone(room)
	covers(t, 3, 1, of(1), room[:2]...)
	coversNot(t, 3, 1, api.ErrHeard, room[:3]...)
	if !slices.Equal(room, was) {
		t.Errorf("the list %v is %v now", was, room)
	}
}
