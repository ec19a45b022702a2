package refute_test

import (
	"testing"

	"earshot/api"
	"earshot/boot"
	"earshot/disk"
	"earshot/refute"
	"earshot/slot"
	"earshot/tagbook"
)

// dice tells numbers below m that look as if by chance, and are the same each time.
type dice uint64

func (d *dice) below(m int) int {
	*d = *d*6364136223846793005 + 1442695040888963407
	return int(uint64(*d)>>33) % m
}

// history is a node that is suspected, defends itself, loses its power and comes back, and what it told in all lives.
type history struct {
	d    *disk.Disk
	m    *boot.Boot
	b    *tagbook.Book
	self int
	told int // the greatest tag of a mistake that was the answer
}

// start begins a life, with a book at its tag; the power that fails within is given back.
func (h *history) start(t testing.TB, n int) {
	t.Helper()
	m, e := boot.Open(h.d)
	for e == api.ErrOff {
		h.d.Restore()
		m, e = boot.Open(h.d)
	}
	if e != api.OK {
		t.Fatalf("Open: error %d", e)
	}
	if m.Tag() < h.told {
		t.Fatalf("the life %d begins at the tag %d, though %d was told", m.Life(), m.Tag(), h.told)
	}
	b, e := tagbook.New(n, h.self, m.Tag())
	if e != api.OK {
		t.Fatalf("New: error %d", e)
	}
	h.m, h.b = m, b
}

// saves tells whether a raise to a tag has to be written.
func (h *history) saves(tag int) bool { return tag > h.m.Tag() && tag > h.m.Durable().Tag }

// wanted tells what Defend is to answer, by the book's list and by how many writes the fuse leaves.
func (h *history) wanted() (x api.Notice, is bool, e api.Errno) {
	has := h.b.List()[h.self]
	if has.Kind != api.Suspicion || has.Tag >= api.MaxTag {
		return api.Notice{}, false, api.OK
	}
	left := h.d.Left()
	if !h.d.On() || h.saves(has.Tag+1) && (left == 0 || left == 1) {
		return api.Notice{}, false, api.ErrOff
	}
	return mistake(h.self, has.Tag+1), true, api.OK
}

// defend holds one Defend against what is wanted, and against what P1503 says.
func (h *history) defend(t testing.TB) {
	t.Helper()
	want, wanted, code := h.wanted()
	if y, due := refute.Due(h.b, h.self); due && wanted && y != want || !due && (wanted || code != api.OK) {
		t.Fatalf("Due: %v, %v, not %v", y, due, want)
	}
	book, was := h.b.Twin(), lifeOf(h.m)
	x, is, e := refute.Defend(h.b, h.self, h.m)
	if x != want || is != wanted || e != code {
		t.Fatalf("Defend: %v, %v, error %d, not %v, %v, error %d", x, is, e, want, wanted, code)
	}
	if !is {
		if !h.b.Same(book) || lifeOf(h.m) != was {
			t.Fatalf("error %d: the book %v is %v now, the life %v is %v", e, book.List(), h.b.List(), was, lifeOf(h.m))
		}
		return
	}
	takes(t, book, want)
	if !h.b.Same(book) {
		t.Fatalf("the book has %v, not %v", h.b.List(), book.List())
	}
	if r, _, e := slot.Load(h.d); h.m.Tag() != max(was.tag, x.Tag) || h.m.Durable().Tag < x.Tag || r != h.m.Durable() || e != api.OK {
		t.Fatalf("P1503: %v was told, the life is %v, the disk has %v, error %d", x, lifeOf(h.m), r, e)
	}
	h.told = max(h.told, x.Tag)
}

// step does one thing that may happen to a node.
func (h *history) step(t testing.TB, kind, number int) {
	t.Helper()
	n := h.b.Size()
	switch kind % 8 {
	case 0:
		h.b.Take(suspicion(number%n, number/n%12))
	case 1:
		h.b.Take(suspicion(h.self, h.b.List()[h.self].Tag))
	case 2:
		h.b.Take(suspicion(h.self, h.b.List()[h.self].Tag+number%6))
	case 3:
		h.d.Fuse(number % 3)
	case 4:
		h.d.Cut()
	case 5:
		h.d.Restore()
	case 6:
		h.start(t, n)
	case 7:
		h.b.Take(suspicion(h.self, api.MaxTag-number%(api.MaxTag/2)))
	}
	h.defend(t)
}

func TestP1503Histories(t *testing.T) {
	dice := dice(1)
	for range 300 {
		n := 1 + dice.below(5)
		h := &history{d: disk.New(), self: dice.below(n)}
		h.start(t, n)
		for range 60 {
			// The last tags are a rare thing: behind them a book has nothing more to tell.
			kind := dice.below(7)
			if dice.below(100) == 0 {
				kind = 7
			}
			h.step(t, kind, dice.below(1000))
		}
	}
}

// TestP1501AllRanks holds Due of each notice that a book of two nodes may have, about the first and the last tags.
func TestP1501AllRanks(t *testing.T) {
	for _, tag := range []int{0, 1, 2, 3, api.MaxTag - 2, api.MaxTag - 1, api.MaxTag} {
		for _, kind := range []int{api.Mistake, api.Suspicion} {
			for self := range 2 {
				b := newBook(t, 2, 1-self)
				b.Take(api.Notice{Of: self, Tag: tag, Kind: kind})
				quiet(t, b, 1-self)
				if kind == api.Suspicion && tag < api.MaxTag {
					due(t, b, self, mistake(self, tag+1))
				} else {
					quiet(t, b, self)
				}
			}
		}
	}
}

func FuzzP1503(f *testing.F) {
	f.Add(uint8(3), uint8(1), []byte{1, 0, 1, 0, 3, 1, 2, 5, 5, 0, 6, 0, 1, 0})
	f.Add(uint8(1), uint8(0), []byte{7, 1, 1, 0, 1, 0})
	f.Fuzz(func(t *testing.T, size, self uint8, steps []byte) {
		n := 1 + int(size)%api.MaxNodes
		h := &history{d: disk.New(), self: int(self) % n}
		h.start(t, n)
		for i := 0; i+1 < len(steps); i += 2 {
			h.step(t, int(steps[i]), int(steps[i+1]))
		}
	})
}
