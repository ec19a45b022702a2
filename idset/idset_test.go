package idset_test

import (
	"math"
	"slices"
	"testing"

	"earshot/api"
	"earshot/idset"
)

// oddIds has numbers that are ids and such that are none, at the edges of words and of what an int holds.
var oddIds = []int{math.MinInt, math.MinInt + 1, -128, -32, -1, 0, 1, 5, 30, 31, 32, 33, 63, 64, 95, 96, 98, 99, 100, 101, 127, 128, 129, 1 << 32, math.MaxInt - 1, math.MaxInt}

// isIn reads a set bit by bit, as P301 says it.
func isIn(s api.Set, id int) bool {
	return id >= 0 && id < 100 && s[id/32]/(1<<(id%32))%2 == 1
}

// listOf tells the ids of a set, bit by bit.
func listOf(s api.Set) []int {
	var list []int
	for id := 0; id < 100; id++ {
		if isIn(s, id) {
			list = append(list, id)
		}
	}
	return list
}

// setWhere makes the clean set of the ids of which a rule holds.
func setWhere(holds func(id int) bool) api.Set {
	var s api.Set
	for id := 0; id < 100; id++ {
		if holds(id) {
			s[id/32] += 1 << (id % 32)
		}
	}
	return s
}

// of makes a set of ids that are known to be some.
func of(t *testing.T, ids ...int) api.Set {
	t.Helper()
	s, e := idset.Of(ids...)
	if e != api.OK {
		t.Fatalf("Of(%v): error %d", ids, e)
	}
	return s
}

// setsToTry has empty, full, sparse and dense sets, clean ones and others.
func setsToTry() []api.Set {
	const ones = math.MaxUint32
	sets := []api.Set{
		{}, {1}, {1 << 31}, {0, 1}, {0, 0, 0, 8}, {0, 0, 0, 15}, {ones, ones, ones, 15},
		{0, 0, 0, 16}, {0, 0, 0, 1 << 31}, {0, 0, 0, ones}, {1, 0, 0, ones &^ 15}, {ones, ones, ones, ones},
		{ones}, {0, ones}, {0, 0, ones}, {1, 2}, {3, 2}, {2, 2},
	}
	state := uint64(1)
	next := func() uint32 {
		state = state*6364136223846793005 + 1442695040888963407
		return uint32(state >> 32)
	}
	for range 40 {
		dense := api.Set{next(), next(), next(), next()}
		sparse := dense
		for w := range sparse {
			sparse[w] &= next() & next()
		}
		sets = append(sets, dense, sparse)
	}
	return sets
}

func TestP301Clean(t *testing.T) {
	if got := idset.Clean(api.Set{0, 0, 0, 0xFFFFFFFF}); got != (api.Set{0, 0, 0, 15}) {
		t.Errorf("Clean: %v", got)
	}
	for _, s := range setsToTry() {
		want := setWhere(func(id int) bool { return isIn(s, id) })
		if got := idset.Clean(s); got != want {
			t.Errorf("Clean(%v): %v, not %v", s, got, want)
		}
	}
}

func TestP301Within(t *testing.T) {
	if idset.Within(api.Set{0, 0, 0, 16}, 100) {
		t.Error("a bit of no id is within 100")
	}
	for _, s := range setsToTry() {
		for _, n := range oddIds {
			want := true
			for b := 0; b < 128; b++ {
				if s[b/32]>>(b%32)&1 == 1 && (b >= n || b >= 100) {
					want = false
				}
			}
			if got := idset.Within(s, n); got != want {
				t.Errorf("Within(%v, %d): %v", s, n, got)
			}
		}
	}
}

// Every call but Within sees through bits of no id, and answers none.
func TestP301StrayBitsSayNothing(t *testing.T) {
	for _, s := range setsToTry() {
		clean := idset.Clean(s)
		for _, id := range oddIds {
			a, ea := idset.With(s, id)
			b, eb := idset.With(clean, id)
			if a != b || ea != eb || idset.Has(s, id) != idset.Has(clean, id) || idset.Without(s, id) != idset.Without(clean, id) {
				t.Errorf("With, Has or Without(%v, %d): stray bits are seen", s, id)
			}
			na, ea := idset.Nth(s, id)
			nb, eb := idset.Nth(clean, id)
			if na != nb || ea != eb {
				t.Errorf("Nth(%v, %d): stray bits are seen", s, id)
			}
		}
		if idset.Count(s) != idset.Count(clean) || idset.Least(s) != idset.Least(clean) || !slices.Equal(idset.Ids(s), idset.Ids(clean)) || !slices.Equal(slices.Collect(idset.All(s)), slices.Collect(idset.All(clean))) {
			t.Errorf("Count, Least, Ids or All(%v): stray bits are seen", s)
		}
		if idset.Order(s, clean) != 0 || idset.Order(clean, s) != 0 || !idset.Subset(s, clean) || !idset.Subset(clean, s) {
			t.Errorf("Order or Subset(%v): stray bits are seen", s)
		}
	}
}

func TestP302Of(t *testing.T) {
	for _, c := range []struct {
		ids  []int
		want api.Set
		e    api.Errno
	}{
		{[]int{0, 33, 33}, api.Set{1, 2, 0, 0}, api.OK},
		{nil, api.Set{}, api.OK},
		{[]int{}, api.Set{}, api.OK},
		{[]int{100}, api.Set{}, api.ErrId},
		{[]int{-1}, api.Set{}, api.ErrId},
		{[]int{99, 0, 31, 32, 63, 64, 95, 96}, api.Set{1<<31 | 1, 1<<31 | 1, 1<<31 | 1, 8 | 1}, api.OK},
		{[]int{1, 2, 100}, api.Set{}, api.ErrId},
		{[]int{-1, 1, 2}, api.Set{}, api.ErrId},
		{[]int{7, -1, 7}, api.Set{}, api.ErrId},
	} {
		if got, e := idset.Of(c.ids...); got != c.want || e != c.e {
			t.Errorf("Of(%v): %v, %d", c.ids, got, e)
		}
	}
	for _, id := range oddIds {
		got, e := idset.Of(id)
		if id < 0 || id >= 100 {
			if got != (api.Set{}) || e != api.ErrId {
				t.Errorf("Of(%d): %v, %d", id, got, e)
			}
		} else if got != setWhere(func(i int) bool { return i == id }) || e != api.OK {
			t.Errorf("Of(%d): %v, %d", id, got, e)
		}
	}
}

func TestP302OfLeavesItsListAlone(t *testing.T) {
	ids := []int{9, 3, 9, 50, 77}
	idset.Of(ids[:4]...)
	if !slices.Equal(ids, []int{9, 3, 9, 50, 77}) {
		t.Errorf("Of turned its list: %v", ids)
	}
}

func TestP302Full(t *testing.T) {
	for n := -3; n <= 131; n++ {
		got, e := idset.Full(n)
		if n < 0 || n > 100 {
			if got != (api.Set{}) || e != api.ErrArg {
				t.Errorf("Full(%d): %v, %d", n, got, e)
			}
		} else if got != setWhere(func(id int) bool { return id < n }) || e != api.OK {
			t.Errorf("Full(%d): %v, %d", n, got, e)
		}
	}
	if got, e := idset.Full(33); got != (api.Set{0xFFFFFFFF, 1, 0, 0}) || e != api.OK {
		t.Errorf("Full(33): %v, %d", got, e)
	}
	for _, n := range []int{math.MinInt, math.MaxInt, 1 << 32} {
		if got, e := idset.Full(n); got != (api.Set{}) || e != api.ErrArg {
			t.Errorf("Full(%d): %v, %d", n, got, e)
		}
	}
}

func TestP303HasWithWithout(t *testing.T) {
	for _, s := range setsToTry() {
		for _, id := range oddIds {
			if got := idset.Has(s, id); got != isIn(s, id) {
				t.Errorf("Has(%v, %d): %v", s, id, got)
			}
			want := setWhere(func(i int) bool { return i == id || isIn(s, i) })
			errno := api.OK
			if id < 0 || id >= 100 {
				want, errno = api.Set{}, api.ErrId
			}
			if got, e := idset.With(s, id); got != want || e != errno {
				t.Errorf("With(%v, %d): %v, %d", s, id, got, e)
			}
			want = setWhere(func(i int) bool { return i != id && isIn(s, i) })
			if got := idset.Without(s, id); got != want {
				t.Errorf("Without(%v, %d): %v", s, id, got)
			}
		}
	}
}

func TestP304UnionMeetLess(t *testing.T) {
	for _, a := range setsToTry() {
		for _, b := range setsToTry() {
			if got := idset.Union(a, b); got != setWhere(func(id int) bool { return isIn(a, id) || isIn(b, id) }) {
				t.Errorf("Union(%v, %v): %v", a, b, got)
			}
			if got := idset.Meet(a, b); got != setWhere(func(id int) bool { return isIn(a, id) && isIn(b, id) }) {
				t.Errorf("Meet(%v, %v): %v", a, b, got)
			}
			if got := idset.Less(a, b); got != setWhere(func(id int) bool { return isIn(a, id) && !isIn(b, id) }) {
				t.Errorf("Less(%v, %v): %v", a, b, got)
			}
		}
	}
}

func TestP304CountLeastIds(t *testing.T) {
	for _, s := range setsToTry() {
		list := listOf(s)
		if got := idset.Count(s); got != len(list) {
			t.Errorf("Count(%v): %d", s, got)
		}
		least := -1
		if len(list) > 0 {
			least = list[0]
		}
		if got := idset.Least(s); got != least {
			t.Errorf("Least(%v): %d", s, got)
		}
		if got := idset.Ids(s); !slices.Equal(got, list) {
			t.Errorf("Ids(%v): %v", s, got)
		}
	}
	if got := idset.Least(of(t, 5, 40)); got != 5 {
		t.Errorf("Least: %d", got)
	}
	if got := idset.Least(of(t)); got != -1 {
		t.Errorf("Least of none: %d", got)
	}
}

func TestP304Nth(t *testing.T) {
	for _, s := range setsToTry() {
		list := listOf(s)
		for k := -3; k < len(list)+3; k++ {
			id, e := idset.Nth(s, k)
			if k < 0 || k >= len(list) {
				if id != 0 || e != api.ErrIndex {
					t.Errorf("Nth(%v, %d): %d, %d", s, k, id, e)
				}
			} else if id != list[k] || e != api.OK {
				t.Errorf("Nth(%v, %d): %d, %d", s, k, id, e)
			}
		}
		for _, k := range []int{math.MinInt, math.MinInt + 1, 100, math.MaxInt} {
			if id, e := idset.Nth(s, k); id != 0 || e != api.ErrIndex {
				t.Errorf("Nth(%v, %d): %d, %d", s, k, id, e)
			}
		}
	}
	if id, e := idset.Nth(of(t, 5, 40), 1); id != 40 || e != api.OK {
		t.Errorf("Nth: %d, %d", id, e)
	}
	if id, e := idset.Nth(of(t, 5), 1); id != 0 || e != api.ErrIndex {
		t.Errorf("Nth beyond: %d, %d", id, e)
	}
}

func TestP304IdsAreNew(t *testing.T) {
	s := of(t, 1, 2)
	first := idset.Ids(s)
	first[0] = 77
	if got := idset.Ids(s); !slices.Equal(got, []int{1, 2}) {
		t.Errorf("two answers share: %v", got)
	}
}

func TestP304All(t *testing.T) {
	for _, s := range setsToTry() {
		list := listOf(s)
		all := idset.All(s)
		for range 2 {
			if got := slices.Collect(all); !slices.Equal(got, list) {
				t.Errorf("All(%v): %v", s, got)
			}
		}
		for stop := 1; stop <= len(list); stop++ {
			calls := 0
			all(func(int) bool {
				calls++
				return calls < stop
			})
			if calls != stop {
				t.Errorf("All(%v), told to stop at the %dth: %d calls", s, stop, calls)
			}
		}
	}
}

func TestP304AllWithinItself(t *testing.T) {
	all := idset.All(of(t, 1, 40, 99))
	var got []int
	for a := range all {
		for b := range all {
			if b > a {
				break
			}
			got = append(got, a, b)
		}
	}
	if want := []int{1, 1, 40, 1, 40, 40, 99, 1, 99, 40, 99, 99}; !slices.Equal(got, want) {
		t.Errorf("All within itself: %v", got)
	}
}

func TestP305Subset(t *testing.T) {
	for _, a := range setsToTry() {
		for _, b := range setsToTry() {
			want := true
			for _, id := range listOf(a) {
				want = want && isIn(b, id)
			}
			if got := idset.Subset(a, b); got != want {
				t.Errorf("Subset(%v, %v): %v", a, b, got)
			}
			if !idset.Subset(idset.Meet(a, b), a) || !idset.Subset(b, idset.Union(a, b)) {
				t.Errorf("Subset of %v, %v: not so of what they share or have in all", a, b)
			}
		}
	}
}

func TestP305Order(t *testing.T) {
	if got := idset.Order(of(t, 5), of(t, 1, 2)); got != 1 {
		t.Errorf("Order({5}, {1 2}): %d", got)
	}
	if got := idset.Order(of(t, 1), of(t, 1)); got != 0 {
		t.Errorf("Order({1}, {1}): %d", got)
	}
	for _, a := range setsToTry() {
		for _, b := range setsToTry() {
			want := 0
			for id := 0; id < 100; id++ {
				if isIn(a, id) && !isIn(b, id) {
					want = 1
				} else if isIn(b, id) && !isIn(a, id) {
					want = -1
				}
			}
			if got := idset.Order(a, b); got != want {
				t.Errorf("Order(%v, %v): %d, not %d", a, b, got, want)
			}
		}
	}
}

// allOfSize has all sets of k of the ids below n.
func allOfSize(n, k int) []api.Set {
	var sets []api.Set
	for word := uint32(0); word < 1<<n; word++ {
		if s := (api.Set{word}); idset.Count(s) == k {
			sets = append(sets, s)
		}
	}
	return sets
}

func TestP306QuorumsMeet(t *testing.T) {
	for n := 1; n <= 7; n++ {
		for f := 0; f < n; f++ {
			for _, quorum := range allOfSize(n, n-f) {
				for _, others := range allOfSize(n, f+1) {
					if idset.Least(idset.Meet(quorum, others)) < 0 {
						t.Errorf("n %d, f %d: %v and %v have none in common", n, f, quorum, others)
					}
				}
			}
		}
	}
}

// The tightest pairs, of all sizes: the first ones and the last ones have just one node in common.
func TestP306TightestPairs(t *testing.T) {
	for n := 1; n <= api.MaxNodes; n++ {
		all, _ := idset.Full(n)
		for f := 0; f < n; f++ {
			quorum, _ := idset.Full(n - f)
			rest := idset.Less(all, quorum)
			last, _ := idset.With(rest, n-f-1)
			if idset.Count(last) != f+1 || idset.Meet(quorum, rest) != (api.Set{}) || !slices.Equal(idset.Ids(idset.Meet(quorum, last)), []int{n - f - 1}) {
				t.Errorf("n %d, f %d: %v and %v", n, f, quorum, last)
			}
		}
	}
}
