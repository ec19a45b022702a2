package infer_test

import (
	"slices"
	"testing"

	"earshot/api"
	"earshot/infer"
	"earshot/tagbook"
)

// dice tells numbers below m that look as if by chance, and are the same each time.
type dice uint64

func (d *dice) below(m int) int {
	*d = *d*6364136223846793005 + 1442695040888963407
	return int(uint64(*d)>>33) % m
}

// set tells a set within n: each id is in it in one of so many throws.
func (d *dice) set(n, throws int) api.Set {
	var s api.Set
	for id := range n {
		if d.below(throws) == 0 {
			s[id/32] |= 1 << (id % 32)
		}
	}
	return s
}

// order tells 0 to n - 1 in some order.
func (d *dice) order(n int) []int {
	l := make([]int, n)
	for i := range l {
		l[i] = i
		j := d.below(i + 1)
		l[i], l[j] = l[j], l[i]
	}
	return l
}

// book tells a book of n nodes, with notices of many kinds.
func (d *dice) book(t testing.TB, n int) *tagbook.Book {
	t.Helper()
	notices := make([]api.Notice, n)
	for id := range notices {
		notices[id] = api.Notice{Of: id, Tag: d.below(5), Kind: api.Mistake + d.below(2)}
	}
	return book(t, notices...)
}

// round is who replied to a round, and with which sets.
type round struct {
	n, f    int
	replies []one
}

// round tells one of n nodes in which just so many have replied as it needs.
func (d *dice) round(n, f, throws int) round {
	r := round{n: n, f: f}
	for _, id := range d.order(n)[:n-f] {
		r.replies = append(r.replies, one{id, d.set(n, throws)})
	}
	return r
}

// heardBy tells by how many of the sets an id is heard.
func heardBy(id int, sets []api.Set) int {
	times := 0
	for _, s := range sets {
		if in(s, id) {
			times++
		}
	}
	return times
}

// known tells, id by id, who has replied or is in one of the sets.
func (r round) known() api.Set {
	var s api.Set
	for id := range r.n {
		for _, o := range r.replies {
			if o.id == id || in(o.heard, id) {
				s[id/32] |= 1 << (id % 32)
			}
		}
	}
	return s
}

// rest tells whom of n nodes a set does not have.
func rest(n int, s api.Set) api.Set {
	var o api.Set
	for id := range n {
		if !in(s, id) {
			o[id/32] |= 1 << (id % 32)
		}
	}
	return o
}

// subset tells whether each id of the first one is in the second one.
func subset(a, b api.Set) bool {
	for w := range a {
		if a[w]&^b[w] != 0 {
			return false
		}
	}
	return true
}

// TestP1402ShortRounds goes through all rounds of up to three nodes.
func TestP1402ShortRounds(t *testing.T) {
	for n := 1; n <= 3; n++ {
		for f := range n {
			var run func(replies []one)
			run = func(replies []one) {
				if len(replies) > 0 {
					hold(t, round{n, f, replies})
				}
				if len(replies) == n-f {
					return
				}
				for id := range n {
					if slices.ContainsFunc(replies, func(o one) bool { return o.id == id }) {
						continue
					}
					for bits := range uint32(1) << n {
						run(append(slices.Clone(replies), one{id, api.Set{bits}}))
					}
				}
			}
			run(nil)
		}
	}
}

// hold holds what is known and missing of a round against the model, and against what P1405 says.
func hold(t *testing.T, r round) {
	t.Helper()
	x := gather(t, r.n, r.f, r.replies[0], r.replies[1:]...)
	known := r.known()
	knows(t, x, known)
	if len(r.replies) < r.n-r.f {
		missesNot(t, r.n, x, api.ErrWaiting)
	} else {
		misses(t, r.n, x, rest(r.n, known))
	}
	missing, _ := infer.Missing(r.n, x)
	for _, s := range x.Heards() {
		if !subset(s, infer.Known(x)) {
			t.Errorf("P1405: of %v, which was heard, not all is in %v", s, infer.Known(x))
		}
		for id := range r.n {
			if in(s, id) && in(missing, id) {
				t.Errorf("P1405: %d was heard, and is missing", id)
			}
		}
	}
	if t.Failed() {
		t.FailNow()
	}
}

func TestP1405LongRounds(t *testing.T) {
	d := dice(1)
	for range 1500 {
		n := 1 + d.below(api.MaxNodes)
		r := d.round(n, d.below(n), 1+d.below(2*n))
		for k := range r.replies {
			if k == len(r.replies)-1 || d.below(8) == 0 {
				hold(t, round{r.n, r.f, r.replies[:k+1]})
			}
		}
	}
}

func TestP1401UnionOfMany(t *testing.T) {
	d := dice(2)
	for range 500 {
		sets := make([]api.Set, d.below(12))
		for i := range sets {
			sets[i] = d.set(128, 1+d.below(200))
		}
		var want api.Set
		for id := range api.MaxNodes {
			if heardBy(id, sets) > 0 {
				want[id/32] |= 1 << (id % 32)
			}
		}
		unites(t, want, sets...)
	}
}

func TestP1403DoubtsOfMany(t *testing.T) {
	d := dice(3)
	for range 500 {
		n := 1 + d.below(api.MaxNodes)
		b, missing := d.book(t, n), d.set(128, 1+d.below(5))
		var want []api.Notice
		for id, x := range b.List() {
			if x.Kind == api.Mistake && in(missing, id) {
				want = append(want, suspicion(id, x.Tag))
			}
		}
		doubts(t, b, missing, want...)
	}
}

func TestP1404CoverOfMany(t *testing.T) {
	d := dice(4)
	for range 1000 {
		n := 1 + d.below(api.MaxNodes)
		f := d.below(n)
		sets := make([]api.Set, d.below(2*n+2))
		for i := range sets {
			sets[i] = d.set(n, 1+d.below(4))
		}
		var want api.Set
		for id := range n {
			if heardBy(id, sets) >= f+1 {
				want[id/32] |= 1 << (id % 32)
			}
		}
		covers(t, n, f, want, sets...)
	}
}

// TestP1404EachQuorumKnows: whoever f + 1 nodes have heard is missing in no round that is closed, whichever nodes reply.
func TestP1404EachQuorumKnows(t *testing.T) {
	d := dice(5)
	for range 1500 {
		n := 1 + d.below(api.MaxNodes)
		f := d.below(n)
		heard := make([]api.Set, n)
		for id := range heard {
			heard[id] = d.set(n, 1+d.below(n))
		}
		cover, e := infer.Cover(n, f, heard...)
		if e != api.OK {
			t.Fatalf("Cover(%d, %d, ..): error %d", n, f, e)
		}
		var replies []one
		for _, id := range d.order(n)[:n-f] {
			replies = append(replies, one{id, heard[id]})
		}
		x := gather(t, n, f, replies[0], replies[1:]...)
		if missing, e := infer.Missing(n, x); e != api.OK || !subset(cover, infer.Known(x)) || !subset(missing, rest(n, cover)) {
			t.Fatalf("n %d, f %d: of %v not all is known; missing %v, error %d", n, f, cover, missing, e)
		}
	}
}

// named tells a set with other ids in the place of its own.
func named(s api.Set, other []int) api.Set {
	var o api.Set
	for id, to := range other {
		o[to/32] |= s[id/32] >> (id % 32) & 1 << (to % 32)
	}
	return o
}

// TestNamesDoNotMatter: with the nodes' ids exchanged, everywhere alike, all goes alike.
func TestNamesDoNotMatter(t *testing.T) {
	d := dice(6)
	for range 300 {
		n := 1 + d.below(api.MaxNodes)
		other := d.order(n)
		r := d.round(n, d.below(n), 1+d.below(2*n))
		o := round{n: n, f: r.f}
		var sets, others []api.Set
		for _, x := range r.replies {
			o.replies = append(o.replies, one{other[x.id], named(x.heard, other)})
			sets, others = append(sets, x.heard), append(others, named(x.heard, other))
		}
		unites(t, named(infer.Union(sets...), other), others...)
		cover, _ := infer.Cover(n, r.f, sets...)
		covers(t, n, r.f, named(cover, other), others...)
		x, y := gather(t, n, r.f, r.replies[0], r.replies[1:]...), gather(t, n, r.f, o.replies[0], o.replies[1:]...)
		knows(t, y, named(infer.Known(x), other))
		missing, _ := infer.Missing(n, x)
		misses(t, n, y, named(missing, other))
		namedDoubts(t, d.book(t, n), missing, other)
	}
}

// namedDoubts asks for doubts of a book, and for those of one by other names.
func namedDoubts(t *testing.T, b *tagbook.Book, missing api.Set, other []int) {
	t.Helper()
	notices := make([]api.Notice, len(other))
	for id, x := range b.List() {
		x.Of = other[id]
		notices[x.Of] = x
	}
	var want []api.Notice
	for _, x := range infer.Doubts(b, missing) {
		x.Of = other[x.Of]
		want = append(want, x)
	}
	slices.SortFunc(want, func(a, b api.Notice) int { return a.Of - b.Of })
	doubts(t, book(t, notices...), named(missing, other), want...)
}

// FuzzCover takes bytes as the numbers and the sets of a Cover.
func FuzzCover(f *testing.F) {
	f.Add([]byte{3, 1, 3, 6, 2})
	f.Add([]byte{100, 99, 255, 0, 1})
	f.Add([]byte{0, 0, 1})
	f.Fuzz(func(t *testing.T, b []byte) {
		if len(b) < 2 {
			return
		}
		n, failing := int(int8(b[0])), int(int8(b[1]))
		var sets []api.Set
		within := true
		for _, v := range b[2:] {
			sets = append(sets, of(int(v)%128, int(v)%7))
			within = within && int(v)%128 < n && int(v)%7 < n
		}
		switch {
		case n < 1 || n > api.MaxNodes || failing < 0 || failing >= n:
			coversNot(t, n, failing, api.ErrArg, sets...)
		case !within:
			coversNot(t, n, failing, api.ErrHeard, sets...)
		default:
			var want api.Set
			for id := range n {
				if heardBy(id, sets) > failing {
					want[id/32] |= 1 << (id % 32)
				}
			}
			covers(t, n, failing, want, sets...)
		}
	})
}
