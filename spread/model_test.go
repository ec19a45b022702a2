package spread_test

import (
	"slices"
	"testing"

	"earshot/api"
	"earshot/spread"
	"earshot/tagbook"
)

// dice tells numbers below m that look as if by chance, and are the same each time.
type dice uint64

func (d *dice) below(m int) int {
	*d = *d*6364136223846793005 + 1442695040888963407
	return int(uint64(*d)>>33) % m
}

// notice tells a notice of one of n nodes; most are of the first tags, some of the last ones.
func (d *dice) notice(n int) api.Notice {
	tag := d.below(5)
	if d.below(10) == 0 {
		tag = api.MaxTag - tag
	}
	return api.Notice{Of: d.below(n), Tag: tag, Kind: api.Mistake + d.below(2)}
}

// news tells some notices of n nodes, in any order, of some nodes several.
func (d *dice) news(n, most int) []api.Notice {
	l := make([]api.Notice, d.below(most+1))
	for i := range l {
		l[i] = d.notice(n)
	}
	return l
}

// book tells a book of n nodes, of some of which it has more than the fresh notice.
func (d *dice) book(t testing.TB, n int) *tagbook.Book {
	t.Helper()
	return bookOf(t, n, d.news(n, 2*n))
}

// order tells 0 to n - 1 in some order.
func (d *dice) order(n int) []int {
	l := make([]int, n)
	for i := range l {
		l[i] = i
		j := d.below(i + 1)
		l[i], l[j] = l[j], l[i]
	}
	return l
}

// bookOf makes a book of n nodes that has taken these notices.
func bookOf(t testing.TB, n int, l []api.Notice) *tagbook.Book {
	t.Helper()
	b := fresh(t, n)
	if _, e := b.Merge(l); e != api.OK {
		t.Fatalf("Merge(%v): error %d", l, e)
	}
	return b
}

// rank is a notice's place in the order of those of one node.
func rank(x api.Notice) int { return 2*x.Tag + x.Kind }

// absorbed tells, by plain lists, what becomes of a book's list, and of which nodes another one stands then.
func absorbed(list []api.Notice, self int, l []api.Notice) ([]api.Notice, api.Set) {
	now := slices.Clone(list)
	var raised api.Set
	for _, x := range l {
		if x.Of == self && x.Kind == api.Mistake || rank(x) <= rank(now[x.Of]) {
			continue
		}
		now[x.Of] = x
		raised[x.Of/32] |= 1 << (x.Of % 32)
	}
	return now, raised
}

// higher tells, by plain lists, what the first one has that is greater.
func higher(a, b []api.Notice) []api.Notice {
	var l []api.Notice
	for id, x := range a {
		if rank(x) > rank(b[id]) {
			l = append(l, x)
		}
	}
	return l
}

// highest tells, by plain lists, the greatest of each node.
func highest(lists ...[]api.Notice) []api.Notice {
	best := slices.Clone(lists[0])
	for _, l := range lists {
		for id, x := range l {
			if rank(x) > rank(best[id]) {
				best[id] = x
			}
		}
	}
	return best
}

func TestP1601AbsorbOfMany(t *testing.T) {
	d := dice(1)
	for range 1500 {
		n := 1 + d.below(api.MaxNodes)
		b, self := d.book(t, n), d.below(n)
		for range 3 {
			l := d.news(n, 2*n)
			want, raised := absorbed(b.List(), self, l)
			absorbs(t, b, self, l, raised, want...)
		}
		if l := d.news(n, n); len(l) > 0 {
			bad := invalid(n)
			l[d.below(len(l))] = bad[d.below(len(bad))]
			refuses(t, b, self, l...)
		}
	}
}

func TestP1602AboveAndLevelOfMany(t *testing.T) {
	d := dice(2)
	for range 1500 {
		n := 1 + d.below(api.MaxNodes)
		books := make([]*tagbook.Book, 1+d.below(8))
		lists := make([][]api.Notice, len(books))
		for i := range books {
			books[i] = d.book(t, n)
			lists[i] = books[i].List()
		}
		level(t, books, highest(lists...)...)
		a, b := d.below(len(books)), d.below(len(books))
		above(t, books[a], books[b], higher(lists[a], lists[b])...)
	}
}

// short calls with each book of n nodes that has notices at the tags 0 and 1.
func short(t testing.TB, n int, call func(b *tagbook.Book)) {
	t.Helper()
	var run func(notices []api.Notice)
	run = func(notices []api.Notice) {
		if len(notices) == n {
			call(book(t, notices...))
			return
		}
		for kind := range 4 {
			run(append(slices.Clone(notices), api.Notice{Of: len(notices), Tag: kind / 2, Kind: api.Mistake + kind%2}))
		}
	}
	run(nil)
}

// TestP1603ShortBooks holds the consequence of each two books of up to two nodes.
func TestP1603ShortBooks(t *testing.T) {
	for n := 1; n <= 2; n++ {
		short(t, n, func(a *tagbook.Book) {
			short(t, n, func(b *tagbook.Book) {
				above(t, a, b, higher(a.List(), b.List())...)
				level(t, several(a, b), highest(a.List(), b.List())...)
				for self := range n {
					levels(t, a.Twin(), b, self)
				}
			})
		})
	}
}

// levels holds that a book that absorbs what is above it has all that is level of both, but for mistakes of itself.
func levels(t testing.TB, b, other *tagbook.Book, self int) {
	t.Helper()
	was := b.List()
	want, e := spread.Level(b, other)
	if e != api.OK {
		t.Fatalf("Level: error %d", e)
	}
	if want[self].Kind == api.Mistake {
		want[self] = was[self]
	}
	l, e := spread.Above(other, b)
	if e != api.OK {
		t.Fatalf("Above: error %d", e)
	}
	absorbs(t, b, self, l, differ(was, want), want...)
	// Then nothing is above it any more, but for a mistake of itself.
	rest, e := spread.Above(other, b)
	if e != api.OK || len(rest) > 1 || len(rest) == 1 && (rest[0].Of != self || rest[0].Kind != api.Mistake) {
		t.Errorf("P1603: above %v, which has absorbed: %v, error %d", b.List(), rest, e)
	}
}

// differ tells of which nodes two lists have unlike notices.
func differ(a, b []api.Notice) api.Set {
	var s api.Set
	for id := range a {
		if a[id] != b[id] {
			s[id/32] |= 1 << (id % 32)
		}
	}
	return s
}

func TestP1603LongBooks(t *testing.T) {
	d := dice(3)
	for range 1500 {
		n := 1 + d.below(api.MaxNodes)
		levels(t, d.book(t, n), d.book(t, n), d.below(n))
	}
}

// TestP1603AnyOrder: absorbing the same lists, in another order, each in another order, and some once more, comes to the same book.
func TestP1603AnyOrder(t *testing.T) {
	d := dice(4)
	for range 500 {
		n := 1 + d.below(20)
		self := d.below(n)
		a := d.book(t, n)
		b := a.Twin()
		lists := make([][]api.Notice, 1+d.below(5))
		for i := range lists {
			lists[i] = d.news(n, 2*n)
			absorb(t, a, self, lists[i])
		}
		for _, i := range d.order(len(lists)) {
			var other []api.Notice
			for _, k := range d.order(len(lists[i])) {
				other = append(other, lists[i][k])
			}
			absorb(t, b, self, other)
			if d.below(2) == 0 {
				absorb(t, b, self, lists[d.below(len(lists))])
			}
		}
		if !a.Same(b) {
			t.Fatalf("P1603: %v in one order, %v in another one", a.List(), b.List())
		}
		for _, l := range lists {
			absorbs(t, a, self, l, of(), b.List()...)
		}
	}
}

// absorb has a book absorb what it must not refuse, and holds that nothing of it falls.
func absorb(t testing.TB, b *tagbook.Book, self int, l []api.Notice) {
	t.Helper()
	was := b.List()
	if _, e := spread.Absorb(b, self, l); e != api.OK {
		t.Fatalf("Absorb(.., %d, %v): error %d", self, l, e)
	}
	for id, x := range b.List() {
		if rank(x) < rank(was[id]) || id == self && x.Kind == api.Mistake && x != was[id] {
			t.Fatalf("Absorb(.., %d, %v): %v became %v", self, l, was[id], x)
		}
	}
}

// TestP1603RidesBring: what rides on a note brings all that a book has above another one, for what does not ride beats nothing.
func TestP1603RidesBring(t *testing.T) {
	d := dice(5)
	for range 500 {
		n := 1 + d.below(api.MaxNodes)
		self, from, a := d.below(n), d.book(t, n), d.book(t, n)
		b := a.Twin()
		l, _ := spread.Above(from, b)
		absorb(t, a, self, spread.Ride(from))
		absorb(t, b, self, l)
		if !a.Same(b) {
			t.Fatalf("by what rides %v, by what is above %v", a.List(), b.List())
		}
	}
}

// named tells a list with other ids in the place of its own, by rising nodes.
func named(l []api.Notice, other []int) []api.Notice {
	var o []api.Notice
	for _, x := range l {
		x.Of = other[x.Of]
		o = append(o, x)
	}
	slices.SortStableFunc(o, func(a, b api.Notice) int { return a.Of - b.Of })
	return o
}

// TestNamesDoNotMatter: with the nodes' ids exchanged, everywhere alike, all goes alike.
func TestNamesDoNotMatter(t *testing.T) {
	d := dice(6)
	for range 300 {
		n := 1 + d.below(api.MaxNodes)
		other, self := d.order(n), d.below(n)
		a, b, l := d.book(t, n), d.book(t, n), d.news(n, n)
		x, y := bookOf(t, n, named(a.List(), other)), bookOf(t, n, named(b.List(), other))
		rides(t, x, named(spread.Ride(a), other)...)
		up, _ := spread.Above(a, b)
		above(t, x, y, named(up, other)...)
		both, _ := spread.Level(a, b)
		level(t, several(x, y), named(both, other)...)
		was := x.List()
		absorb(t, a, self, l)
		want := named(a.List(), other)
		absorbs(t, x, other[self], named(l, other), differ(was, want), want...)
	}
}

// FuzzAbsorb takes bytes as notices, three of them as one, of which some are not valid.
func FuzzAbsorb(f *testing.F) {
	f.Add(uint8(3), 0, []byte{0, 0, 2, 2, 1, 1})
	f.Add(uint8(3), 0, []byte{0, 9, 1, 3, 0, 1})
	f.Add(uint8(100), 99, []byte{99, 200, 1, 99, 3, 2, 98, 0, 2})
	f.Add(uint8(0), 1, []byte{})
	f.Fuzz(func(t *testing.T, size uint8, self int, b []byte) {
		n := 1 + int(size)%api.MaxNodes
		x := fresh(t, n)
		var l []api.Notice
		valid := true
		for ; len(b) >= 3; b = b[3:] {
			y := api.Notice{Of: int(int8(b[0])), Tag: int(b[1]) * api.MaxTag / 254, Kind: int(b[2]) % 4}
			valid = valid && y.Of >= 0 && y.Of < n && b[1] < 255 && y.Kind%3 != 0
			l = append(l, y)
		}
		if !valid {
			refuses(t, x, self, l...)
			return
		}
		want, raised := absorbed(x.List(), self, l)
		absorbs(t, x, self, l, raised, want...)
		above(t, x, fresh(t, n), higher(x.List(), fresh(t, n).List())...)
		rides(t, x, higher(x.List(), fresh(t, n).List())...)
		levels(t, fresh(t, n), x, int(size)%n)
	})
}
