package tagbook_test

import (
	"iter"
	"math"
	"slices"
	"testing"

	"earshot/api"
	"earshot/idset"
	"earshot/notice"
	"earshot/tagbook"
)

func mistake(of, tag int) api.Notice { return api.Notice{Of: of, Tag: tag, Kind: api.Mistake} }

func suspicion(of, tag int) api.Notice { return api.Notice{Of: of, Tag: tag, Kind: api.Suspicion} }

// must makes a book of which the numbers are known to be right.
func must(t *testing.T, n, self, tag int) *tagbook.Book {
	t.Helper()
	b, e := tagbook.New(n, self, tag)
	if e != api.OK || b == nil {
		t.Fatalf("New(%d, %d, %d): error %d", n, self, tag, e)
	}
	return b
}

func setOf(t *testing.T, ids ...int) api.Set {
	t.Helper()
	s, e := idset.Of(ids...)
	if e != api.OK {
		t.Fatalf("Of(%v): error %d", ids, e)
	}
	return s
}

// has holds all that a book tells against the notices that it should have.
func has(t *testing.T, what string, b *tagbook.Book, want ...api.Notice) {
	t.Helper()
	var news []api.Notice
	var suspects api.Set
	for id, x := range want {
		if got, e := b.At(id); got != x || e != api.OK {
			t.Errorf("%s: At(%d): %v, error %d, not %v", what, id, got, e, x)
		}
		if x != mistake(id, 0) {
			news = append(news, x)
		}
		if x.Kind == api.Suspicion {
			suspects[id/32] |= 1 << (id % 32)
		}
	}
	if got := b.Size(); got != len(want) {
		t.Errorf("%s: Size: %d, not %d", what, got, len(want))
	}
	if got := b.List(); !slices.Equal(got, want) {
		t.Errorf("%s: List: %v, not %v", what, got, want)
	}
	if got := slices.Collect(b.All()); !slices.Equal(got, want) {
		t.Errorf("%s: All: %v, not %v", what, got, want)
	}
	if got := b.News(); !slices.Equal(got, news) {
		t.Errorf("%s: News: %v, not %v", what, got, news)
	}
	if got := b.Suspects(); got != suspects {
		t.Errorf("%s: Suspects: %v, not %v", what, got, suspects)
	}
}

// begin is what a new book should have.
func begin(n, self, tag int) []api.Notice {
	l := make([]api.Notice, n)
	for id := range l {
		l[id] = mistake(id, 0)
	}
	l[self] = mistake(self, tag)
	return l
}

// far are numbers that no count of nodes, no id and no tag has.
func far() []int {
	return []int{math.MinInt, math.MinInt + 1, -1 << 62, -1 << 32, -api.MaxTag, -100, -2, -1, api.MaxTag + 1, 1 << 32, 1<<32 + 1, 1 << 62, math.MaxInt - 1, math.MaxInt}
}

// strays are notices that no book of n nodes takes.
func strays(n int) []api.Notice {
	l := []api.Notice{{}, {Kind: 3}, {Kind: -1}, {Kind: 1<<32 + 1}, {Tag: 1}, mistake(n, 0), suspicion(n, 0), mistake(-1, 0), suspicion(-1, 5)}
	for _, v := range far() {
		l = append(l, mistake(0, v), suspicion(0, v), mistake(v, 0), suspicion(v, 0), api.Notice{Kind: v}, api.Notice{Tag: 7, Kind: v})
	}
	return l
}

func TestP601New(t *testing.T) {
	for _, c := range []struct {
		n, self, tag int
		want         api.Errno
	}{
		{0, 0, 0, api.ErrArg},
		{3, 3, 0, api.ErrId},
		{3, 0, -1, api.ErrNotice},
		{101, 0, 0, api.ErrArg},
		{-1, 0, 0, api.ErrArg},
		{1, 0, 0, api.OK},
		{1, 1, 0, api.ErrId},
		{3, -1, 0, api.ErrId},
		{3, 2, 0, api.OK},
		{100, 99, 0, api.OK},
		{100, 100, 0, api.ErrId},
		{3, 2, api.MaxTag, api.OK},
		{3, 2, api.MaxTag + 1, api.ErrNotice},
		// Of several errors the one that is named first.
		{0, -1, -1, api.ErrArg},
		{0, 0, -1, api.ErrArg},
		{101, 100, api.MaxTag + 1, api.ErrArg},
		{101, 101, 0, api.ErrArg},
		{3, 3, -1, api.ErrId},
		{3, -1, api.MaxTag + 1, api.ErrId},
	} {
		b, e := tagbook.New(c.n, c.self, c.tag)
		if e != c.want || (b != nil) != (c.want == api.OK) {
			t.Errorf("New(%d, %d, %d): %v, error %d, not %d", c.n, c.self, c.tag, b, e, c.want)
		}
	}
	for _, v := range far() {
		for _, c := range []struct {
			n, self, tag int
			want         api.Errno
		}{{v, 0, 0, api.ErrArg}, {v, v, v, api.ErrArg}, {3, v, 0, api.ErrId}, {3, v, v, api.ErrId}, {3, 0, v, api.ErrNotice}} {
			if b, e := tagbook.New(c.n, c.self, c.tag); b != nil || e != c.want {
				t.Errorf("New(%d, %d, %d): %v, error %d, not %d", c.n, c.self, c.tag, b, e, c.want)
			}
		}
	}
}

func TestP601NewHas(t *testing.T) {
	has(t, "New(3, 1, 4)", must(t, 3, 1, 4), mistake(0, 0), mistake(1, 4), mistake(2, 0))
	for n := 1; n <= api.MaxNodes; n++ {
		for _, self := range []int{0, n / 2, n - 1} {
			for _, tag := range []int{0, 1, api.MaxTag} {
				has(t, "new", must(t, n, self, tag), begin(n, self, tag)...)
			}
		}
	}
	// Each of two books is its own.
	a, b := must(t, 2, 0, 0), must(t, 2, 0, 0)
	a.Take(suspicion(1, 3))
	has(t, "another book", b, mistake(0, 0), mistake(1, 0))
}

func TestP602At(t *testing.T) {
	b := must(t, 3, 1, 4)
	for id, want := range []api.Notice{mistake(0, 0), mistake(1, 4), mistake(2, 0)} {
		if got, e := b.At(id); got != want || e != api.OK {
			t.Errorf("At(%d): %v, error %d", id, got, e)
		}
	}
	for _, id := range append(far(), 3, 4, 31, 32, 99, 100) {
		if got, e := b.At(id); got != (api.Notice{}) || e != api.ErrId {
			t.Errorf("At(%d): %v, error %d", id, got, e)
		}
	}
	whole := must(t, api.MaxNodes, 99, 7)
	if got, e := whole.At(99); got != mistake(99, 7) || e != api.OK {
		t.Errorf("At(99): %v, error %d", got, e)
	}
	if got, e := whole.At(100); got != (api.Notice{}) || e != api.ErrId {
		t.Errorf("At(100): %v, error %d", got, e)
	}
}

func TestP603Take(t *testing.T) {
	b := must(t, 3, 1, 4)
	for _, c := range []struct {
		x    api.Notice
		took bool
		e    api.Errno
	}{
		{suspicion(2, 0), true, api.OK},
		{mistake(2, 0), false, api.OK},
		{mistake(2, 1), true, api.OK},
		{mistake(3, 0), false, api.ErrNotice},
		{mistake(2, 1), false, api.OK},
		{suspicion(2, 0), false, api.OK},
		{suspicion(1, 3), false, api.OK},
		{mistake(1, 4), false, api.OK},
		{suspicion(1, 4), true, api.OK},
		{suspicion(1, 4), false, api.OK},
		{mistake(0, 0), false, api.OK},
		{mistake(0, api.MaxTag), true, api.OK},
		{suspicion(0, api.MaxTag-1), false, api.OK},
		{suspicion(0, api.MaxTag), true, api.OK},
		{mistake(0, api.MaxTag), false, api.OK},
		{mistake(0, api.MaxTag+1), false, api.ErrNotice},
	} {
		was, _ := b.At(c.x.Of)
		took, e := b.Take(c.x)
		if took != c.took || e != c.e {
			t.Errorf("Take(%v): %t, error %d", c.x, took, e)
		}
		want := was
		if c.took {
			want = c.x
		}
		if now, _ := b.At(c.x.Of); now != want {
			t.Errorf("Take(%v): %v stands now, not %v", c.x, now, want)
		}
	}
	has(t, "behind all", b, suspicion(0, api.MaxTag), suspicion(1, 4), mistake(2, 1))
}

func TestP603TakeOfWhatIsNone(t *testing.T) {
	for _, n := range []int{1, 3, api.MaxNodes} {
		b := must(t, n, 0, 4)
		for _, x := range strays(n) {
			if took, e := b.Take(x); took || e != api.ErrNotice {
				t.Errorf("Take(%v) of %d nodes: %t, error %d", x, n, took, e)
			}
		}
		has(t, "behind strays", b, begin(n, 0, 4)...)
	}
}

func TestP603Merge(t *testing.T) {
	b := must(t, 3, 1, 4)
	b.Take(suspicion(2, 0))
	b.Take(mistake(2, 1))
	merge := func(want api.Set, l ...api.Notice) {
		t.Helper()
		if got, e := b.Merge(l); got != want || e != api.OK {
			t.Errorf("Merge(%v): %v, error %d, not %v", l, got, e, want)
		}
	}
	merge(setOf(t, 0), suspicion(0, 0), mistake(0, 1), suspicion(1, 3))
	has(t, "1?3 is beaten by 1!4", b, mistake(0, 1), mistake(1, 4), mistake(2, 1))
	merge(api.Set{})
	merge(api.Set{}, b.List()...)
	merge(api.Set{}, suspicion(0, 0), mistake(0, 1), suspicion(1, 3))
	merge(api.Set{}, mistake(0, 0), mistake(1, 0), mistake(2, 0))
	has(t, "nothing new", b, mistake(0, 1), mistake(1, 4), mistake(2, 1))
	// In any order, and of one node more than once.
	merge(setOf(t, 0, 2), suspicion(2, 9), suspicion(0, 1), mistake(2, 9), suspicion(0, 1), mistake(1, 4), mistake(0, 1))
	has(t, "more than once", b, suspicion(0, 1), mistake(1, 4), suspicion(2, 9))
	merge(setOf(t, 0, 1, 2), mistake(2, 10), suspicion(1, api.MaxTag), mistake(0, 2))
	has(t, "all of them", b, mistake(0, 2), suspicion(1, api.MaxTag), mistake(2, 10))
}

func TestP603MergeOfMany(t *testing.T) {
	b := must(t, api.MaxNodes, 50, 3)
	full, _ := idset.Full(api.MaxNodes)
	var l []api.Notice
	for id := range api.MaxNodes {
		l = append(l, suspicion(99-id, 2*id))
	}
	want := slices.Clone(l)
	slices.Reverse(want)
	if got, e := b.Merge(l); got != full || e != api.OK {
		t.Errorf("Merge of all nodes: %v, error %d", got, e)
	}
	has(t, "all nodes", b, want...)
	for id := range api.MaxNodes {
		x, _ := b.At(id)
		y, _ := notice.Reply(x)
		if got, e := b.Merge([]api.Notice{y, x}); got != setOf(t, id) || e != api.OK {
			t.Errorf("Merge of %v, %v: %v, error %d", y, x, got, e)
		}
	}
}

func TestP603MergeTakesAllOrNothing(t *testing.T) {
	for _, n := range []int{1, 3, api.MaxNodes} {
		b := must(t, n, 0, 4)
		for _, x := range strays(n) {
			for _, l := range [][]api.Notice{{x}, {x, suspicion(0, 9)}, {suspicion(0, 9), x}, {mistake(0, 9), x, suspicion(0, 9)}, {mistake(0, 0), x}} {
				if got, e := b.Merge(l); got != (api.Set{}) || e != api.ErrNotice {
					t.Errorf("Merge(%v) of %d nodes: %v, error %d", l, n, got, e)
				}
			}
		}
		has(t, "behind strays", b, begin(n, 0, 4)...)
	}
}

func TestP603MergeLeavesTheList(t *testing.T) {
	room := []api.Notice{suspicion(1, 1), mistake(0, 1), suspicion(2, 8), {Of: 77, Tag: 77, Kind: 77}, {Of: 78}}
	was := slices.Clone(room)
	l := room[:3]
	b := must(t, 3, 0, 0)
	if got, e := b.Merge(l); got != setOf(t, 0, 1, 2) || e != api.OK {
		t.Errorf("Merge(%v): %v, error %d", l, got, e)
	}
	if !slices.Equal(room, was) {
		t.Errorf("Merge has turned %v into %v", was, room)
	}
	for i := range room {
		room[i] = suspicion(0, 99)
	}
	has(t, "with the list turned", b, mistake(0, 1), suspicion(1, 1), suspicion(2, 8))
	b.Take(mistake(1, 2))
	if room[0] != suspicion(0, 99) {
		t.Errorf("a later Take has turned the list: %v", room)
	}
}

func TestP604Lists(t *testing.T) {
	b := must(t, 5, 1, 0)
	has(t, "all are fresh", b, begin(5, 1, 0)...)
	b.Merge([]api.Notice{suspicion(4, 0), mistake(2, 1), suspicion(0, 6)})
	has(t, "three of them", b, suspicion(0, 6), mistake(1, 0), mistake(2, 1), mistake(3, 0), suspicion(4, 0))
	if got := b.News(); !slices.Equal(got, []api.Notice{suspicion(0, 6), mistake(2, 1), suspicion(4, 0)}) {
		t.Errorf("News: %v", got)
	}
	if got := b.Suspects(); got != (api.Set{1<<0 | 1<<4}) {
		t.Errorf("Suspects: %v", got)
	}
	b.Merge([]api.Notice{mistake(4, 1), mistake(0, 7)})
	if got := b.Suspects(); got != (api.Set{}) {
		t.Errorf("Suspects of mistakes: %v", got)
	}
	whole := must(t, api.MaxNodes, 0, 0)
	for id := range api.MaxNodes {
		whole.Take(suspicion(id, 0))
		if full, _ := idset.Full(id + 1); whole.Suspects() != full {
			t.Errorf("Suspects up to %d: %v", id, whole.Suspects())
		}
	}
	if got := whole.News(); len(got) != api.MaxNodes || got[99] != suspicion(99, 0) {
		t.Errorf("News of all: %v", got)
	}
}

func TestP604ListsAreNew(t *testing.T) {
	b := must(t, 3, 1, 4)
	list, again, news := b.List(), b.List(), b.News()
	for i := range list {
		list[i] = suspicion(0, 9)
	}
	for i := range news {
		news[i] = suspicion(0, 9)
	}
	_ = append(list[:1], suspicion(1, 8), suspicion(2, 8), suspicion(0, 8))
	has(t, "with the lists turned", b, mistake(0, 0), mistake(1, 4), mistake(2, 0))
	if !slices.Equal(again, []api.Notice{mistake(0, 0), mistake(1, 4), mistake(2, 0)}) {
		t.Errorf("another List: %v", again)
	}
	b.Take(suspicion(0, 0))
	if again[0] != mistake(0, 0) {
		t.Errorf("a list of before: %v", again)
	}
}

func TestP604All(t *testing.T) {
	b := must(t, 3, 1, 4)
	all := b.All()
	want := []api.Notice{mistake(0, 0), mistake(1, 4), mistake(2, 0)}
	b.Merge([]api.Notice{suspicion(0, 0), suspicion(1, 4), suspicion(2, 0)})
	for range 3 {
		if got := slices.Collect(all); !slices.Equal(got, want) {
			t.Errorf("All, as it was at the call: %v", got)
		}
	}
	// Within itself.
	var pairs []api.Notice
	for x := range all {
		for y := range all {
			pairs = append(pairs, x, y)
		}
	}
	if len(pairs) != 18 || pairs[0] != want[0] || pairs[1] != want[0] || pairs[2] != want[0] || pairs[3] != want[1] || pairs[16] != want[2] || pairs[17] != want[2] {
		t.Errorf("All within itself: %v", pairs)
	}
	// It stops when it is told to, and begins anew.
	for stop := 1; stop <= 3; stop++ {
		var got []api.Notice
		all(func(x api.Notice) bool {
			got = append(got, x)
			return len(got) < stop
		})
		if !slices.Equal(got, want[:stop]) {
			t.Errorf("All, stopped at %d: %v", stop, got)
		}
	}
	next, end := iter.Pull(all)
	defer end()
	if x, ok := next(); x != want[0] || !ok {
		t.Errorf("All, pulled: %v, %t", x, ok)
	}
}

func TestP604AllWhileTaking(t *testing.T) {
	b := must(t, 3, 1, 4)
	var got []api.Notice
	for x := range b.All() {
		for id := range 3 {
			b.Take(suspicion(id, 9))
		}
		got = append(got, x)
	}
	if !slices.Equal(got, []api.Notice{mistake(0, 0), mistake(1, 4), mistake(2, 0)}) {
		t.Errorf("All, while others are taken: %v", got)
	}
	has(t, "behind it", b, suspicion(0, 9), suspicion(1, 9), suspicion(2, 9))
}

func TestP605Twin(t *testing.T) {
	b := must(t, 3, 1, 4)
	b.Take(suspicion(2, 5))
	twin := b.Twin()
	if twin == b || !twin.Same(b) || !b.Same(twin) {
		t.Errorf("Twin: %v", twin)
	}
	has(t, "the twin", twin, mistake(0, 0), mistake(1, 4), suspicion(2, 5))
	b.Take(suspicion(0, 0))
	has(t, "the twin, when the book goes on", twin, mistake(0, 0), mistake(1, 4), suspicion(2, 5))
	twin.Merge([]api.Notice{mistake(2, 6), suspicion(1, 4)})
	has(t, "the book, when the twin goes on", b, suspicion(0, 0), mistake(1, 4), suspicion(2, 5))
	has(t, "the twin", twin, mistake(0, 0), suspicion(1, 4), mistake(2, 6))
	whole := must(t, api.MaxNodes, 99, api.MaxTag)
	has(t, "a twin of all", whole.Twin().Twin(), begin(api.MaxNodes, 99, api.MaxTag)...)
}

func TestP605Same(t *testing.T) {
	b := must(t, 3, 1, 4)
	for _, c := range []struct {
		o    *tagbook.Book
		want bool
	}{
		{b, true},
		{must(t, 3, 1, 4), true},
		{must(t, 3, 1, 5), false},
		{must(t, 3, 0, 4), false},
		{must(t, 4, 1, 4), false},
		{must(t, 2, 1, 4), false},
		{must(t, api.MaxNodes, 1, 4), false},
	} {
		if b.Same(c.o) != c.want || c.o.Same(b) != c.want {
			t.Errorf("Same of %v and %v: %t, %t", b.List(), c.o.List(), b.Same(c.o), c.o.Same(b))
		}
	}
	// Each node's tag and kind counts, the last one's too; who is self does not.
	for id := range 3 {
		for _, x := range []api.Notice{suspicion(id, 4), mistake(id, 5)} {
			o := b.Twin()
			o.Take(x)
			if o.Same(b) || b.Same(o) {
				t.Errorf("Same with %v", x)
			}
		}
	}
	o := must(t, 3, 0, 0)
	if o.Take(mistake(1, 4)); !o.Same(b) || !b.Same(o) {
		t.Errorf("Same of %v and %v", o.List(), b.List())
	}
	if !must(t, 3, 0, 0).Same(must(t, 3, 2, 0)) {
		t.Error("Same of two that are all fresh")
	}
}

func TestP605ZeroAndNil(t *testing.T) {
	var zero tagbook.Book
	for what, b := range map[string]*tagbook.Book{"zero": &zero, "nil": nil, "a zero one's twin": zero.Twin()} {
		has(t, what, b)
		for _, id := range append(far(), 0, 1, 99) {
			if got, e := b.At(id); got != (api.Notice{}) || e != api.ErrId {
				t.Errorf("%s: At(%d): %v, error %d", what, id, got, e)
			}
		}
		for _, x := range append(strays(0), mistake(0, 0), suspicion(0, 0), mistake(99, 1)) {
			if took, e := b.Take(x); took || e != api.ErrNotice {
				t.Errorf("%s: Take(%v): %t, error %d", what, x, took, e)
			}
			if got, e := b.Merge([]api.Notice{x}); got != (api.Set{}) || e != api.ErrNotice {
				t.Errorf("%s: Merge(%v): %v, error %d", what, x, got, e)
			}
		}
		for _, l := range [][]api.Notice{nil, {}} {
			if got, e := b.Merge(l); got != (api.Set{}) || e != api.OK {
				t.Errorf("%s: Merge of none: %v, error %d", what, got, e)
			}
		}
		has(t, what+" behind it", b)
		if !b.Same(nil) || !b.Same(&zero) || !b.Same(&tagbook.Book{}) || !b.Same(b) {
			t.Errorf("%s: Same of what has no node", what)
		}
		if one := must(t, 1, 0, 0); b.Same(one) || one.Same(b) {
			t.Errorf("%s: Same with a book of one node", what)
		}
	}
	var none *tagbook.Book
	if none.Twin() != nil {
		t.Error("Twin of nil")
	}
	if twin := zero.Twin(); twin == nil || twin == &zero {
		t.Error("Twin of a zero one")
	}
}

// low are all notices of n nodes at tags up to 2.
func low(n int) []api.Notice {
	var l []api.Notice
	for id := range n {
		for tag := range 3 {
			l = append(l, mistake(id, tag), suspicion(id, tag))
		}
	}
	return l
}

// greatest is what a book should have behind some notices, gone by the greatest of each node.
func greatest(from, l []api.Notice) []api.Notice {
	out := slices.Clone(from)
	for id := range out {
		for _, x := range l {
			if x.Of == id && notice.Rank(x) > notice.Rank(out[id]) {
				out[id] = x
			}
		}
	}
	return out
}

func TestP606NoNoticeFalls(t *testing.T) {
	// Every three notices of two nodes, one behind the other: each order and each one twice are among them.
	from := begin(2, 1, 1)
	for _, x := range low(2) {
		for _, y := range low(2) {
			for _, z := range low(2) {
				l := []api.Notice{x, y, z}
				one, whole := must(t, 2, 1, 1), must(t, 2, 1, 1)
				for i, v := range l {
					was := one.List()
					took, e := one.Take(v)
					now, want := one.List(), greatest(from, l[:i+1])
					if e != api.OK || !slices.Equal(now, want) || took == slices.Equal(now, was) {
						t.Fatalf("Take of %v, the last of %v: %t, error %d; %v, not %v", v, l[:i+1], took, e, now, want)
					}
				}
				set, e := whole.Merge(l)
				var other api.Set
				for id, v := range greatest(from, l) {
					if v != from[id] {
						other[0] |= 1 << id
					}
				}
				if !whole.Same(one) || set != other || e != api.OK {
					t.Fatalf("Merge(%v): %v, error %d; %v, not %v", l, set, e, whole.List(), one.List())
				}
			}
		}
	}
}

func TestP606OrderIsNothing(t *testing.T) {
	l := low(5)
	want := must(t, 5, 2, 1)
	want.Merge(l)
	for step := 1; step < len(l); step++ {
		if len(l)%step == 0 && step > 1 {
			continue
		}
		// With a step that has no divisor in common with 30 each comes once; with others some never, some more than once.
		b, seen := must(t, 5, 2, 1), []api.Notice(nil)
		for i := range 2 * len(l) {
			x := l[i*step%len(l)]
			b.Take(x)
			seen = append(seen, x)
		}
		has(t, "in steps", b, greatest(begin(5, 2, 1), seen)...)
		// And those of a whole book at once, as one book's news come to another.
		o := must(t, 5, 2, 1)
		o.Merge(b.News())
		if !o.Same(b) {
			t.Errorf("news of %v: %v", b.List(), o.List())
		}
		if b.Merge(l); !b.Same(want) {
			t.Errorf("all of them at last: %v", b.List())
		}
	}
}
