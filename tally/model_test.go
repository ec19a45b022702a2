package tally_test

import (
	"slices"
	"testing"

	"earshot/api"
	"earshot/tally"
)

// model is a tally told plainly: the replies, one behind the other.
type model struct {
	n, f, round int
	replies     []one
}

// take tells what becomes of a reply; 0 and an error, if its set can't be.
func (m *model) take(from, round int, heard api.Set) (int, api.Errno) {
	if from < 0 || from >= m.n {
		return api.Alien, api.OK
	}
	for id := m.n; id < 128; id++ {
		if heard[id/32]>>(id%32)&1 == 1 {
			return 0, api.ErrHeard
		}
	}
	if round != m.round {
		return api.Stale, api.OK
	}
	for _, r := range m.replies {
		if r.id == from {
			return api.Again, api.OK
		}
	}
	if len(m.replies) >= m.n-m.f {
		return api.Late, api.OK
	}
	m.replies = append(m.replies, one{from, heard})
	return api.Counted, api.OK
}

// pair is a tally and its model.
type pair struct {
	x *tally.Tally
	m model
}

func pairOf(t testing.TB, n, f, self, round int, own api.Set) *pair {
	t.Helper()
	return &pair{begin(t, n, f, self, round, own), model{n, f, round, []one{{self, own}}}}
}

// take hands both a reply in, and holds them against each other, and against what P1305 says.
func (p *pair) take(t testing.TB, from, round int, heard api.Set) {
	t.Helper()
	were, who := p.x.Heards(), p.x.Repliers()
	kind, e := p.x.Take(from, round, heard)
	if k, g := p.m.take(from, round, heard); kind != k || e != g {
		t.Fatalf("Take(%d, %d, %v) behind %v: %d, error %d, not %d, error %d", from, round, heard, p.m.replies, kind, e, k, g)
	}
	has(t, p.x, p.m.n-p.m.f, p.m.round, p.m.replies...)
	now, repliers := p.x.Heards(), p.x.Repliers()
	if len(now) > p.m.n-p.m.f || len(now) < len(were) || !slices.Equal(now[:len(were)], were) {
		t.Fatalf("Take(%d, %d, %v): behind %v stands %v", from, round, heard, were, now)
	}
	for w := range who {
		if who[w]&^repliers[w] != 0 {
			t.Fatalf("Take(%d, %d, %v): of %v somebody is gone: %v", from, round, heard, who, repliers)
		}
	}
	if kind != api.Counted && (len(now) != len(were) || repliers != who) {
		t.Fatalf("Take(%d, %d, %v): %d, and yet something has changed", from, round, heard, kind)
	}
	if t.Failed() {
		t.FailNow()
	}
}

// reply is what may come in.
type reply struct {
	from, round int
	heard       api.Set
}

// replies are those that may come to one of n nodes in the round 2: of each one, and of what is none, of this round and others, with sets that can be and one that can't.
func replies(n int) []reply {
	var l []reply
	for from := -1; from <= n; from++ {
		l = append(l, reply{from, 2, of(max(from, 0) % n)}, reply{from, 2, of(n)})
	}
	return append(l, reply{0, 1, of()}, reply{n - 1, 3, full(n)}, reply{n, 1, of(n)})
}

// TestP1305ShortRuns goes through all runs of a few replies to few nodes.
func TestP1305ShortRuns(t *testing.T) {
	for n := 1; n <= 4; n++ {
		all := replies(n)
		for f := range n {
			for self := range n {
				var run func(steps []reply)
				run = func(steps []reply) {
					if len(steps) == 3 {
						p := pairOf(t, n, f, self, 2, full(n))
						for _, r := range steps {
							p.take(t, r.from, r.round, r.heard)
						}
						return
					}
					for _, r := range all {
						run(append(slices.Clone(steps), r))
					}
				}
				run(nil)
			}
		}
	}
}

// dice tells numbers below m that look as if by chance, and are the same each time.
type dice uint64

func (d *dice) below(m int) int {
	*d = *d*6364136223846793005 + 1442695040888963407
	return int(uint64(*d)>>33) % m
}

// set tells a set within n, now and then one that is not.
func (d *dice) set(n int) api.Set {
	var s api.Set
	for w := range s {
		s[w] = uint32(d.below(1<<16)<<16 | d.below(1<<16))
	}
	if d.below(8) > 0 {
		for id := n; id < 128; id++ {
			s[id/32] &^= 1 << (id % 32)
		}
	}
	return s
}

func TestP1305LongRuns(t *testing.T) {
	d := dice(1)
	for range 300 {
		n := 1 + d.below(api.MaxNodes)
		round := 1 + d.below(1<<20)
		p := pairOf(t, n, d.below(n), d.below(n), round, full(n))
		for range 2*n + 5 {
			at := round
			if d.below(6) == 0 {
				at += d.below(5) - 2
			}
			p.take(t, d.below(n+2)-1, at, d.set(n))
		}
	}
}

// TestNamesDoNotMatter: with the nodes' ids exchanged, everywhere alike, a tally goes alike.
func TestNamesDoNotMatter(t *testing.T) {
	d := dice(7)
	for range 200 {
		n := 1 + d.below(api.MaxNodes)
		other := make([]int, n)
		for id := range other {
			other[id] = id
		}
		for i := range other {
			j := d.below(i + 1)
			other[i], other[j] = other[j], other[i]
		}
		f, self, own := d.below(n), d.below(n), full(n)
		x, y := begin(t, n, f, self, 5, own), begin(t, n, f, other[self], 5, own)
		for range 2 * n {
			from, round, heard := d.below(n), 5-d.below(8)/7, api.Set{}
			for range d.below(4) {
				id := d.below(n)
				heard[id/32] |= 1 << (id % 32)
			}
			k, e := x.Take(from, round, heard)
			if k2, e2 := y.Take(other[from], round, named(heard, other)); k != k2 || e != e2 {
				t.Fatalf("n %d: Take(%d, ..): %d, error %d; by other names %d, error %d", n, from, k, e, k2, e2)
			}
		}
		if named(x.Repliers(), other) != y.Repliers() {
			t.Fatalf("n %d: Repliers %v and %v", n, x.Repliers(), y.Repliers())
		}
		for i, s := range x.Heards() {
			if named(s, other) != y.Heards()[i] {
				t.Fatalf("n %d: Heards differ at %d", n, i)
			}
		}
	}
}

// named tells a set with other ids in the place of its own.
func named(s api.Set, other []int) api.Set {
	var o api.Set
	for id, to := range other {
		o[to/32] |= s[id/32] >> (id % 32) & 1 << (to % 32)
	}
	return o
}

// FuzzRuns takes bytes as a tally and the replies to it.
func FuzzRuns(f *testing.F) {
	f.Add([]byte{4, 1, 2, 7, 0, 7, 1, 0, 7, 2, 1, 6, 0, 4, 7, 0, 3, 7, 9, 1, 7, 3})
	f.Add([]byte{100, 0, 99, 1, 98, 1, 127, 0, 1, 255, 1, 0, 5})
	f.Fuzz(func(t *testing.T, b []byte) {
		if len(b) < 4 {
			return
		}
		n := 1 + int(b[0])%api.MaxNodes
		p := pairOf(t, n, int(b[1])%n, int(b[2])%n, 1+int(b[3]), of())
		for b = b[4:]; len(b) >= 3; b = b[3:] {
			p.take(t, int(int8(b[0])), int(b[1]), of(int(b[2])%128, int(b[2])%n))
		}
	})
}
