package refute_test

import (
	"bytes"
	"math"
	"slices"
	"testing"

	"earshot/api"
	"earshot/boot"
	"earshot/disk"
	"earshot/refute"
	"earshot/slot"
	"earshot/tagbook"
)

func mistake(of, tag int) api.Notice { return api.Notice{Of: of, Tag: tag, Kind: api.Mistake} }

func suspicion(of, tag int) api.Notice { return api.Notice{Of: of, Tag: tag, Kind: api.Suspicion} }

// far are numbers that are no ids.
func far() []int {
	return []int{math.MinInt, math.MinInt + 1, -1 << 62, -1 << 32, -100, -2, -1, api.MaxNodes, 128, 1 << 32, 1<<32 + 1, 1 << 62, math.MaxInt - 1, math.MaxInt}
}

// newBook makes a book of n nodes that has taken these notices, each of which must beat what stood there.
func newBook(t testing.TB, n, self int, notices ...api.Notice) *tagbook.Book {
	t.Helper()
	b, e := tagbook.New(n, self, 0)
	if e != api.OK {
		t.Fatalf("New(%d, %d, 0): error %d", n, self, e)
	}
	for _, x := range notices {
		takes(t, b, x)
	}
	return b
}

func takes(t testing.TB, b *tagbook.Book, x api.Notice) {
	t.Helper()
	if took, e := b.Take(x); !took || e != api.OK {
		t.Fatalf("Take(%v): %v, error %d", x, took, e)
	}
}

// begin begins a life that must begin.
func begin(t testing.TB, d *disk.Disk) *boot.Boot {
	t.Helper()
	m, e := boot.Open(d)
	if m == nil || e != api.OK {
		t.Fatalf("Open: error %d", e)
	}
	return m
}

// having is a disk with a record at a seq in its slot 0.
func having(t testing.TB, r api.Record, seq int) *disk.Disk {
	t.Helper()
	b, e := slot.Encode(r, seq)
	if e != api.OK {
		t.Fatalf("Encode(%v, %d): error %d", r, seq, e)
	}
	image := make([]byte, api.Sectors*api.SectorSize)
	copy(image, b)
	d, e := disk.Of(image)
	if e != api.OK {
		t.Fatalf("Of: error %d", e)
	}
	return d
}

// due holds that a mistake is due, and that to ask for it changes nothing.
func due(t testing.TB, b *tagbook.Book, self int, want api.Notice) {
	t.Helper()
	was := b.Twin()
	if x, is := refute.Due(b, self); x != want || !is {
		t.Errorf("Due(%v, %d): %v, %v, not %v", b.List(), self, x, is, want)
	}
	if !b.Same(was) {
		t.Errorf("Due(.., %d): the book has %v, not %v", self, b.List(), was.List())
	}
}

// quiet holds that nothing is due.
func quiet(t testing.TB, b *tagbook.Book, self int) {
	t.Helper()
	was := b.Twin()
	if x, is := refute.Due(b, self); x != (api.Notice{}) || is {
		t.Errorf("Due(%v, %d): %v, %v", b.List(), self, x, is)
	}
	if !b.Same(was) {
		t.Errorf("Due(.., %d): the book has %v, not %v", self, b.List(), was.List())
	}
}

// life is what a Boot tells of itself.
type life struct {
	life, round, tag int
	durable          api.Record
}

func lifeOf(m *boot.Boot) life { return life{m.Life(), m.Round(), m.Tag(), m.Durable()} }

// defends holds that a mistake is the answer, that the book has taken it and nothing else, and that the tag was raised.
func defends(t testing.TB, b *tagbook.Book, self int, m *boot.Boot, want api.Notice, now life) {
	t.Helper()
	after := b.Twin()
	takes(t, after, want)
	if x, is, e := refute.Defend(b, self, m); x != want || !is || e != api.OK {
		t.Errorf("Defend(.., %d, ..): %v, %v, error %d, not %v", self, x, is, e, want)
	}
	if !b.Same(after) {
		t.Errorf("Defend(.., %d, ..): the book has %v, not %v", self, b.List(), after.List())
	}
	if got := lifeOf(m); got != now {
		t.Errorf("Defend(.., %d, ..): the life is %v, not %v", self, got, now)
	}
}

// stays holds that no mistake is told, with this error or none, and that book and life are as they were.
func stays(t testing.TB, b *tagbook.Book, self int, m *boot.Boot, want api.Errno) {
	t.Helper()
	was, now := b.Twin(), lifeOf(m)
	if x, is, e := refute.Defend(b, self, m); x != (api.Notice{}) || is || e != want {
		t.Errorf("Defend(.., %d, ..): %v, %v, error %d, not %d", self, x, is, e, want)
	}
	if !b.Same(was) {
		t.Errorf("Defend(.., %d, ..): the book has %v, not %v", self, b.List(), was.List())
	}
	if got := lifeOf(m); got != now {
		t.Errorf("Defend(.., %d, ..): the life is %v, not %v", self, got, now)
	}
}

func rec(life, round, tag int) api.Record { return api.Record{Life: life, Round: round, Tag: tag} }

func has(t testing.TB, b *tagbook.Book, want api.Notice) {
	t.Helper()
	if x, e := b.At(want.Of); x != want || e != api.OK {
		t.Errorf("At(%d): %v, error %d, not %v", want.Of, x, e, want)
	}
}

// loads looks what a disk has, by the slots alone.
func loads(t testing.TB, d *disk.Disk, want api.Record) {
	t.Helper()
	if r, _, e := slot.Load(d); r != want || e != api.OK {
		t.Errorf("Load: %v, error %d, not %v", r, e, want)
	}
}

func TestExamples(t *testing.T) {
	d := disk.New()
	m := begin(t, d)
	b := newBook(t, 3, 1)
	quiet(t, b, 1)
	stays(t, b, 1, nil, api.OK)
	takes(t, b, suspicion(1, 0))
	due(t, b, 1, mistake(1, 1))
	quiet(t, b, 0)
	defends(t, b, 1, m, mistake(1, 1), life{1, 0, 1, rec(1, 16, 4)})
	has(t, b, mistake(1, 1))
	takes(t, b, suspicion(1, 7))
	d.Cut()
	stays(t, b, 1, m, api.ErrOff)
	has(t, b, suspicion(1, 7))
	takes(t, b, suspicion(1, 1048576))
	quiet(t, b, 1)
}

func TestP1501Due(t *testing.T) {
	for _, tag := range []int{0, 1, 2, 3, 4, 5, 16, 255, 256, 1 << 16, 1<<20 - 2, 1<<20 - 1} {
		b := newBook(t, 3, 1, suspicion(1, tag))
		due(t, b, 1, mistake(1, tag+1))
		due(t, b, 1, mistake(1, tag+1))
		quiet(t, b, 0)
		quiet(t, b, 2)
	}
}

func TestP1501DueOfEachNode(t *testing.T) {
	for _, n := range []int{1, 2, 3, 32, 33, 64, 65, 99, api.MaxNodes} {
		for id := range n {
			b := newBook(t, n, 0, suspicion(id, 5+id))
			for self := range n {
				if self == id {
					due(t, b, self, mistake(id, 6+id))
				} else {
					quiet(t, b, self)
				}
			}
		}
	}
	// It is told of whoever is asked for, not of whom the book was made for, nor of the first one that is suspected.
	b := newBook(t, 4, 2, suspicion(0, 3), suspicion(1, 8), suspicion(2, 5))
	due(t, b, 0, mistake(0, 4))
	due(t, b, 1, mistake(1, 9))
	due(t, b, 2, mistake(2, 6))
	quiet(t, b, 3)
}

func TestP1501MistakeIsNotDue(t *testing.T) {
	for _, tag := range []int{1, 2, 7, 1<<20 - 1, 1 << 20} {
		quiet(t, newBook(t, 3, 1, mistake(1, tag)), 1)
		quiet(t, newBook(t, 3, 1, suspicion(1, tag-1), mistake(1, tag)), 1)
	}
	quiet(t, newBook(t, 3, 1), 1)
}

func TestP1501DueAtTheEnd(t *testing.T) {
	b := newBook(t, 3, 1, suspicion(1, api.MaxTag-1))
	due(t, b, 1, mistake(1, api.MaxTag))
	takes(t, b, mistake(1, api.MaxTag))
	quiet(t, b, 1)
	takes(t, b, suspicion(1, api.MaxTag))
	quiet(t, b, 1)
}

func TestP1501DueOfNothing(t *testing.T) {
	for _, self := range append(far(), 0, 1, 2) {
		quiet(t, nil, self)
		quiet(t, &tagbook.Book{}, self)
	}
	b := newBook(t, 3, 1, suspicion(0, 1), suspicion(1, 1), suspicion(2, 1))
	for _, self := range append(far(), 3, 4, 99) {
		quiet(t, b, self)
	}
	full := newBook(t, api.MaxNodes, 0)
	for id := range api.MaxNodes {
		takes(t, full, suspicion(id, 0))
	}
	for _, self := range far() {
		quiet(t, full, self)
	}
}

func TestP1502Defend(t *testing.T) {
	d := disk.New()
	m := begin(t, d)
	b := newBook(t, 4, 2, suspicion(0, 9), suspicion(2, 0), mistake(3, 4))
	// Within what is durable no write is needed.
	for tag := 1; tag <= 4; tag++ {
		defends(t, b, 2, m, mistake(2, tag), life{1, 0, tag, rec(1, 16, 4)})
		stays(t, b, 2, m, api.OK)
		takes(t, b, suspicion(2, tag))
	}
	if d.Writes() != 2 {
		t.Errorf("%d writes, not 2", d.Writes())
	}
	defends(t, b, 2, m, mistake(2, 5), life{1, 0, 5, rec(1, 16, 8)})
	if d.Writes() != 4 {
		t.Errorf("%d writes, not 4", d.Writes())
	}
	loads(t, d, rec(1, 16, 8))
	if want := []api.Notice{suspicion(0, 9), mistake(1, 0), mistake(2, 5), mistake(3, 4)}; !slices.Equal(b.List(), want) {
		t.Errorf("the book has %v, not %v", b.List(), want)
	}
}

func TestP1502DefendOfAGreaterTag(t *testing.T) {
	// A forged suspicion may be far ahead of what the node ever told.
	d := disk.New()
	m := begin(t, d)
	b := newBook(t, 3, 1, suspicion(1, 500))
	defends(t, b, 1, m, mistake(1, 501), life{1, 0, 501, rec(1, 16, 504)})
	loads(t, d, rec(1, 16, 504))
}

func TestP1502DefendBelowTheTag(t *testing.T) {
	// A life that began at a tag above the suspicion's has nothing to raise, but the book takes the mistake all the same.
	d := having(t, rec(3, 40, 20), 9)
	m := begin(t, d)
	for _, tag := range []int{0, 5, 18, 19} {
		writes := d.Writes()
		b := newBook(t, 3, 1, suspicion(1, tag))
		defends(t, b, 1, m, mistake(1, tag+1), life{4, 40, 20, rec(4, 56, 24)})
		if d.Writes() != writes {
			t.Errorf("%d writes, not %d", d.Writes(), writes)
		}
	}
	defends(t, newBook(t, 3, 1, suspicion(1, 20)), 1, m, mistake(1, 21), life{4, 40, 21, rec(4, 56, 24)})
}

func TestP1502DefendAtTheEnd(t *testing.T) {
	d := disk.New()
	m := begin(t, d)
	b := newBook(t, 3, 1, suspicion(1, api.MaxTag-2))
	defends(t, b, 1, m, mistake(1, api.MaxTag-1), life{1, 0, api.MaxTag - 1, rec(1, 16, api.MaxTag)})
	takes(t, b, suspicion(1, api.MaxTag-1))
	defends(t, b, 1, m, mistake(1, api.MaxTag), life{1, 0, api.MaxTag, rec(1, 16, api.MaxTag)})
	stays(t, b, 1, m, api.OK)
	takes(t, b, suspicion(1, api.MaxTag))
	stays(t, b, 1, m, api.OK)
	stays(t, b, 1, nil, api.OK)
	loads(t, d, rec(1, 16, api.MaxTag))
}

func TestP1502DefendLooksNotAtTheBoot(t *testing.T) {
	dark := disk.New()
	off := begin(t, dark)
	dark.Cut()
	lit := disk.New()
	on := begin(t, lit)
	image, writes := lit.Image(), lit.Writes()
	suspected := newBook(t, 3, 1, suspicion(0, 2), suspicion(2, api.MaxTag))
	for _, m := range []*boot.Boot{nil, {}, off, on} {
		for _, self := range append(far(), 1, 2, 3) {
			stays(t, suspected, self, m, api.OK)
		}
		for _, self := range append(far(), 0, 1, 2) {
			stays(t, nil, self, m, api.OK)
			stays(t, &tagbook.Book{}, self, m, api.OK)
			stays(t, newBook(t, 3, 1), self, m, api.OK)
		}
	}
	if !bytes.Equal(lit.Image(), image) || lit.Writes() != writes {
		t.Errorf("the disk has changed: %d writes, not %d", lit.Writes(), writes)
	}
}

func TestP1502DefendWithoutABoot(t *testing.T) {
	b := newBook(t, 3, 1, suspicion(1, 0))
	stays(t, b, 1, nil, api.ErrArg)
	stays(t, b, 1, &boot.Boot{}, api.ErrOff)
	due(t, b, 1, mistake(1, 1))
}

func TestP1502DefendWithoutPower(t *testing.T) {
	// The power is looked for, though nothing is to be written, and nothing to be raised.
	d := having(t, rec(3, 40, 20), 9)
	m := begin(t, d)
	d.Cut()
	for _, tag := range []int{0, 19, 20, 23, 24, 100, api.MaxTag - 1} {
		b := newBook(t, 3, 1, suspicion(1, tag))
		stays(t, b, 1, m, api.ErrOff)
		due(t, b, 1, mistake(1, tag+1))
	}
	d.Restore()
	defends(t, newBook(t, 3, 1, suspicion(1, 24)), 1, m, mistake(1, 25), life{4, 40, 25, rec(4, 56, 28)})
}

func TestP1502DefendIsCutOff(t *testing.T) {
	for fuse := range 3 {
		d := disk.New()
		m := begin(t, d)
		b := newBook(t, 3, 1, suspicion(1, 4), suspicion(2, 1))
		d.Fuse(fuse)
		if fuse == 2 {
			defends(t, b, 1, m, mistake(1, 5), life{1, 0, 5, rec(1, 16, 8)})
			continue
		}
		stays(t, b, 1, m, api.ErrOff)
		stays(t, b, 1, m, api.ErrOff)
		d.Restore()
		loads(t, d, rec(1, 16, 4))
		defends(t, b, 1, m, mistake(1, 5), life{1, 0, 5, rec(1, 16, 8)})
		loads(t, d, rec(1, 16, 8))
	}
}

func TestP1502DefendBehindTheLastSave(t *testing.T) {
	d := having(t, rec(1, 0, 0), api.MaxNumber-1)
	m := begin(t, d)
	b := newBook(t, 3, 1, suspicion(1, 4))
	stays(t, b, 1, m, api.ErrEnd)
	due(t, b, 1, mistake(1, 5))
	// What is reserved already may still be told.
	defends(t, newBook(t, 3, 1, suspicion(1, 3)), 1, m, mistake(1, 4), life{2, 0, 4, rec(2, 16, 4)})
}

func TestP1502DefendKeepsNothing(t *testing.T) {
	m := begin(t, disk.New())
	b, c := newBook(t, 3, 1, suspicion(1, 0)), newBook(t, 3, 1, suspicion(1, 6))
	twin := b.Twin()
	defends(t, b, 1, m, mistake(1, 1), life{1, 0, 1, rec(1, 16, 4)})
	has(t, twin, suspicion(1, 0))
	defends(t, c, 1, m, mistake(1, 7), life{1, 0, 7, rec(1, 16, 10)})
	has(t, b, mistake(1, 1))
	defends(t, twin, 1, m, mistake(1, 1), life{1, 0, 7, rec(1, 16, 10)})
}
