package tally_test

import (
	"math"
	"slices"
	"testing"

	"earshot/api"
	"earshot/tally"
)

// of makes a set without the help of package idset, so that the tests hang on none of its calls. Ids from api.MaxNodes up to 127 make one that is not clean.
func of(ids ...int) api.Set {
	var s api.Set
	for _, id := range ids {
		s[id/32] |= 1 << (id % 32)
	}
	return s
}

// full is the set of 0 to n - 1.
func full(n int) api.Set {
	var s api.Set
	for id := range n {
		s[id/32] |= 1 << (id % 32)
	}
	return s
}

// far are numbers that no count of nodes, no id and no round has.
func far() []int {
	return []int{math.MinInt, math.MinInt + 1, -1 << 62, -1 << 40, -1 << 32, -100, -2, -1, api.MaxRound + 1, api.MaxRound + 2, 1 << 62, math.MaxInt - 1, math.MaxInt}
}

// strays are sets that are not within n: one id too great, alone or beside others, and bits that are no id at all.
func strays(n int) []api.Set {
	var l []api.Set
	for id := n; id < 128; id++ {
		l = append(l, of(id), of(0, id), of(n-1, id))
	}
	return append(l, api.Set{math.MaxUint32, math.MaxUint32, math.MaxUint32, math.MaxUint32})
}

// begin makes a tally that must be made.
func begin(t testing.TB, n, f, self, round int, own api.Set) *tally.Tally {
	t.Helper()
	x, e := tally.New(n, f, self, round, own)
	if x == nil || e != api.OK {
		t.Fatalf("New(%d, %d, %d, %d, %v): error %d", n, f, self, round, own, e)
	}
	return x
}

// refused asks for a tally that must be refused.
func refused(t testing.TB, n, f, self, round int, own api.Set, want api.Errno) {
	t.Helper()
	if x, e := tally.New(n, f, self, round, own); x != nil || e != want {
		t.Errorf("New(%d, %d, %d, %d, %v): a tally: %v, error %d, not %d", n, f, self, round, own, x != nil, e, want)
	}
}

// takes hands a reply in, of which this must become.
func takes(t testing.TB, x *tally.Tally, from, round int, heard api.Set, want int) {
	t.Helper()
	if kind, e := x.Take(from, round, heard); kind != want || e != api.OK {
		t.Errorf("Take(%d, %d, %v): %d, error %d, not %d", from, round, heard, kind, e, want)
	}
}

// spurns hands a reply in that must be refused.
func spurns(t testing.TB, x *tally.Tally, from, round int, heard api.Set, want api.Errno) {
	t.Helper()
	if kind, e := x.Take(from, round, heard); kind != 0 || e != want {
		t.Errorf("Take(%d, %d, %v): %d, error %d, not 0, error %d", from, round, heard, kind, e, want)
	}
}

// one is a replier and the set that it replied with.
type one struct {
	id    int
	heard api.Set
}

// has holds all that a tally tells against the replies that it should have.
func has(t testing.TB, x *tally.Tally, need, round int, want ...one) {
	t.Helper()
	var repliers api.Set
	var heards []api.Set
	for _, w := range want {
		repliers[w.id/32] |= 1 << (w.id % 32)
		heards = append(heards, w.heard)
	}
	if x.Round() != round || x.Need() != need || x.Have() != len(want) {
		t.Errorf("Round %d, Need %d, Have %d, not %d, %d, %d", x.Round(), x.Need(), x.Have(), round, need, len(want))
	}
	if ready := need > 0 && len(want) == need; x.Ready() != ready {
		t.Errorf("Ready: %v, not %v", x.Ready(), ready)
	}
	if got := x.Repliers(); got != repliers {
		t.Errorf("Repliers: %v, not %v", got, repliers)
	}
	if got := x.Heards(); !slices.Equal(got, heards) {
		t.Errorf("Heards: %v, not %v", got, heards)
	}
}

func TestExamples(t *testing.T) {
	refused(t, 0, 0, 0, 1, of(), api.ErrArg)
	refused(t, 3, 3, 0, 1, of(), api.ErrArg)
	refused(t, 3, 1, 3, 1, of(), api.ErrId)
	refused(t, 3, 1, 0, 0, of(), api.ErrRound)
	refused(t, 3, 1, 0, 1, of(3), api.ErrHeard)
	x := begin(t, 4, 1, 2, 7, of(0, 1, 2, 3))
	has(t, x, 3, 7, one{2, of(0, 1, 2, 3)})
	takes(t, x, 0, 7, of(0), api.Counted)
	takes(t, x, 0, 7, of(1), api.Again)
	takes(t, x, 1, 6, of(), api.Stale)
	takes(t, x, 4, 7, of(), api.Alien)
	takes(t, x, 2, 7, of(), api.Again)
	has(t, x, 3, 7, one{2, of(0, 1, 2, 3)}, one{0, of(0)})
	takes(t, x, 3, 7, of(2, 3), api.Counted)
	has(t, x, 3, 7, one{2, of(0, 1, 2, 3)}, one{0, of(0)}, one{3, of(2, 3)})
	takes(t, x, 1, 7, of(1), api.Late)
	has(t, x, 3, 7, one{2, of(0, 1, 2, 3)}, one{0, of(0)}, one{3, of(2, 3)})
}

func TestP1301NewTakesWhatItMay(t *testing.T) {
	for _, n := range []int{1, 2, 3, 31, 32, 33, 64, 65, 96, 97, 99, api.MaxNodes} {
		for _, f := range []int{0, n / 2, n - 1} {
			for _, self := range []int{0, n / 2, n - 1} {
				for _, own := range []api.Set{of(), of(0), of(n - 1), full(n)} {
					for _, round := range []int{1, 2, 1 << 32, api.MaxRound - 1, api.MaxRound} {
						x := begin(t, n, f, self, round, own)
						has(t, x, n-f, round, one{self, own})
					}
				}
			}
		}
	}
}

func TestP1301NewRefuses(t *testing.T) {
	for _, v := range append(far(), 0, 101, 127, 128, 1<<32, 1<<32+3, api.MaxRound) {
		refused(t, v, 0, 0, 1, of(), api.ErrArg)
	}
	for _, v := range append(far(), 3, 4, 1<<32, 1<<32+1, api.MaxRound) {
		refused(t, 3, v, 0, 1, of(), api.ErrArg)
		refused(t, 3, 1, v, 1, of(), api.ErrId)
	}
	for _, v := range append(far(), 0) {
		refused(t, 3, 1, 0, v, of(), api.ErrRound)
	}
	for _, n := range []int{1, 3, 32, 99, api.MaxNodes} {
		refused(t, n, n, 0, 1, of(), api.ErrArg)
		refused(t, n, 0, n, 1, of(), api.ErrId)
		for _, s := range strays(n) {
			refused(t, n, 0, 0, 1, s, api.ErrHeard)
		}
	}
}

func TestP1301FirstErrorIsTold(t *testing.T) {
	stray := of(100)
	refused(t, 0, 0, 9, 0, stray, api.ErrArg)
	refused(t, 0, -1, 0, 1, of(), api.ErrArg)
	refused(t, 101, 0, 101, 0, stray, api.ErrArg)
	refused(t, 3, 3, -1, -1, stray, api.ErrArg)
	refused(t, 3, -1, 3, 0, stray, api.ErrArg)
	refused(t, 3, 2, 3, 0, stray, api.ErrId)
	refused(t, 3, 2, -1, api.MaxRound+1, stray, api.ErrId)
	refused(t, 3, 2, 2, 0, stray, api.ErrRound)
	refused(t, 3, 2, 2, api.MaxRound+1, stray, api.ErrRound)
	refused(t, 3, 2, 2, api.MaxRound, stray, api.ErrHeard)
}

func TestP1302Alien(t *testing.T) {
	for _, n := range []int{1, 3, 32, 99, api.MaxNodes} {
		x := begin(t, n, 0, 0, 5, full(n))
		for _, from := range append(far(), n, n+1, 100, 127, 128, 1<<32, 1<<32+1, api.MaxRound) {
			takes(t, x, from, 5, of(0), api.Alien)
			takes(t, x, from, 4, of(0), api.Alien)
			takes(t, x, from, 5, of(127), api.Alien)
		}
		has(t, x, n, 5, one{0, full(n)})
	}
}

func TestP1302ErrHeard(t *testing.T) {
	for _, n := range []int{1, 3, 32, 99, api.MaxNodes} {
		x := begin(t, n, n-1, 0, 5, of())
		for _, s := range strays(n) {
			spurns(t, x, n-1, 5, s, api.ErrHeard)
			// It goes ahead of being stale, again or late.
			spurns(t, x, n-1, 6, s, api.ErrHeard)
			spurns(t, x, 0, 5, s, api.ErrHeard)
		}
		has(t, x, 1, 5, one{0, of()})
	}
	x := begin(t, 3, 0, 0, 5, of())
	spurns(t, x, 1, 5, of(3), api.ErrHeard)
	takes(t, x, 1, 5, of(2), api.Counted)
	has(t, x, 3, 5, one{0, of()}, one{1, of(2)})
}

func TestP1302Stale(t *testing.T) {
	for _, round := range []int{1, 2, 7, 1 << 32, api.MaxRound} {
		x := begin(t, 3, 1, 1, round, of(1))
		for _, v := range append(far(), 0, round-1, round+1, round+1<<32, round-1<<32, -round) {
			takes(t, x, 0, v, of(0), api.Stale)
			// It goes ahead of being again.
			takes(t, x, 1, v, of(1), api.Stale)
		}
		has(t, x, 2, round, one{1, of(1)})
		takes(t, x, 0, round, of(2), api.Counted)
		// And ahead of being late.
		takes(t, x, 2, round+1, of(2), api.Stale)
		has(t, x, 2, round, one{1, of(1)}, one{0, of(2)})
	}
}

func TestP1302Again(t *testing.T) {
	x := begin(t, 4, 1, 2, 7, full(4))
	takes(t, x, 2, 7, of(), api.Again)
	takes(t, x, 2, 7, full(4), api.Again)
	takes(t, x, 0, 7, of(0), api.Counted)
	takes(t, x, 0, 7, of(0), api.Again)
	takes(t, x, 0, 7, of(1, 2), api.Again)
	takes(t, x, 1, 7, of(1), api.Counted)
	// Again goes ahead of Late.
	for id := range 3 {
		takes(t, x, id, 7, of(3), api.Again)
	}
	has(t, x, 3, 7, one{2, full(4)}, one{0, of(0)}, one{1, of(1)})
}

func TestP1302Late(t *testing.T) {
	x := begin(t, 5, 3, 4, 9, of(4))
	takes(t, x, 1, 9, of(1), api.Counted)
	// One that was late has not replied: it is late once more.
	for range 3 {
		for _, id := range []int{0, 2, 3} {
			takes(t, x, id, 9, of(id), api.Late)
		}
	}
	has(t, x, 2, 9, one{4, of(4)}, one{1, of(1)})
	// Where f is n - 1 one's own reply is enough from the beginning on.
	y := begin(t, 5, 4, 4, 9, of(4))
	has(t, y, 1, 9, one{4, of(4)})
	takes(t, y, 0, 9, of(0), api.Late)
	takes(t, y, 4, 9, of(0), api.Again)
	has(t, y, 1, 9, one{4, of(4)})
}

func TestP1302CountedUpToAll(t *testing.T) {
	for _, n := range []int{1, 2, 32, 33, 65, 97, api.MaxNodes} {
		self := n / 2
		x := begin(t, n, 0, self, api.MaxRound, full(n))
		want := []one{{self, full(n)}}
		for k := range n {
			// 7 has no factor in common with any of these n, so each node comes once.
			id := (k*7 + n/3) % n
			if id == self {
				takes(t, x, id, api.MaxRound, of(), api.Again)
				continue
			}
			takes(t, x, id, api.MaxRound, of(k), api.Counted)
			want = append(want, one{id, of(k)})
			has(t, x, n, api.MaxRound, want...)
		}
		if len(want) != n || !x.Ready() || x.Repliers() != full(n) {
			t.Errorf("n %d: %d replies, Ready %v, Repliers %v", n, len(want), x.Ready(), x.Repliers())
		}
	}
}

func TestP1302ASetMayComeTwice(t *testing.T) {
	x := begin(t, 4, 0, 0, 1, of(1))
	takes(t, x, 3, 1, of(1), api.Counted)
	takes(t, x, 1, 1, of(), api.Counted)
	takes(t, x, 2, 1, of(1), api.Counted)
	has(t, x, 4, 1, one{0, of(1)}, one{3, of(1)}, one{1, of()}, one{2, of(1)})
}

func TestP1303HeardsIsNewMemory(t *testing.T) {
	x := begin(t, 5, 1, 2, 3, full(5))
	takes(t, x, 0, 3, of(0), api.Counted)
	takes(t, x, 4, 3, of(4), api.Counted)
	a, b := x.Heards(), x.Heards()
	for i := range a {
		a[i] = of(3)
	}
	if want := []api.Set{full(5), of(0), of(4)}; !slices.Equal(b, want) || !slices.Equal(x.Heards(), want) {
		t.Fatalf("a list that was told is turned by another one: %v, %v", b, x.Heards())
	}
	// The spare room behind an answer is its own too.
	b = append(b, of(1))
	c := append(x.Heards(), of(2))
	takes(t, x, 1, 3, of(), api.Counted)
	if b[3] != of(1) || c[3] != of(2) {
		t.Errorf("behind the lists stand %v and %v", b[3], c[3])
	}
	has(t, x, 4, 3, one{2, full(5)}, one{0, of(0)}, one{4, of(4)}, one{1, of()})
}

func TestP1303TwoTalliesShareNothing(t *testing.T) {
	x := begin(t, 4, 1, 0, 3, of(0))
	y := begin(t, 4, 1, 0, 3, of(0))
	takes(t, x, 1, 3, of(1), api.Counted)
	takes(t, y, 2, 3, of(2), api.Counted)
	takes(t, x, 3, 3, of(), api.Counted)
	has(t, x, 3, 3, one{0, of(0)}, one{1, of(1)}, one{3, of()})
	has(t, y, 3, 3, one{0, of(0)}, one{2, of(2)})
}

func TestP1304Zero(t *testing.T) {
	var x tally.Tally
	for _, from := range append(far(), 0, 1, 99, 100) {
		for _, round := range []int{-1, 0, 1, api.MaxRound} {
			for _, s := range []api.Set{of(), of(0), of(127)} {
				takes(t, &x, from, round, s, api.Alien)
			}
		}
	}
	has(t, &x, 0, 0)
}

func TestP1304Nil(t *testing.T) {
	var x *tally.Tally
	for _, from := range append(far(), 0, 1, 99, 100) {
		for _, round := range []int{-1, 0, 1, api.MaxRound} {
			for _, s := range []api.Set{of(), of(0), of(127)} {
				spurns(t, x, from, round, s, api.ErrArg)
			}
		}
	}
	has(t, x, 0, 0)
}
