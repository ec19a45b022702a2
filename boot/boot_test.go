package boot_test

import (
	"bytes"
	"fmt"
	"math"
	"slices"
	"testing"

	"earshot/api"
	"earshot/boot"
	"earshot/disk"
	"earshot/slot"
)

// rec is short for a record.
func rec(life, round, tag int) api.Record { return api.Record{Life: life, Round: round, Tag: tag} }

// state is what a Boot tells of itself.
type state struct {
	life, round, tag int
	durable          api.Record
}

func stateOf(b *boot.Boot) state { return state{b.Life(), b.Round(), b.Tag(), b.Durable()} }

// open begins a life that must begin.
func open(t testing.TB, d *disk.Disk) *boot.Boot {
	t.Helper()
	b, e := boot.Open(d)
	if b == nil || e != api.OK {
		t.Fatalf("Open: error %d", e)
	}
	return b
}

// refused opens a disk that must be refused.
func refused(t testing.TB, d *disk.Disk, want api.Errno) {
	t.Helper()
	if b, e := boot.Open(d); b != nil || e != want {
		t.Fatalf("Open: a Boot: %v, error %d, not %d", b != nil, e, want)
	}
}

func holds(t testing.TB, b *boot.Boot, want state) {
	t.Helper()
	if got := stateOf(b); got != want {
		t.Fatalf("%v, not %v", got, want)
	}
}

func next(t testing.TB, b *boot.Boot, want int, e api.Errno) {
	t.Helper()
	if round, got := b.Next(); round != want || got != e {
		t.Fatalf("Next: %d, error %d, not %d, error %d", round, got, want, e)
	}
}

func raise(t testing.TB, b *boot.Boot, tag int, want api.Errno) {
	t.Helper()
	if e := b.Raise(tag); e != want {
		t.Fatalf("Raise(%d): error %d, not %d", tag, e, want)
	}
}

func writes(t testing.TB, d *disk.Disk, want int) {
	t.Helper()
	if got := d.Writes(); got != want {
		t.Fatalf("%d writes, not %d", got, want)
	}
}

// loads looks what a disk has, by the slots alone.
func loads(t testing.TB, d *disk.Disk, want api.Record) {
	t.Helper()
	if r, _, e := slot.Load(d); r != want || e != api.OK {
		t.Fatalf("Load: %v, error %d, not %v", r, e, want)
	}
}

// having is a disk with a record at a seq in its slot 0.
func having(t testing.TB, r api.Record, seq int) *disk.Disk {
	t.Helper()
	b, e := slot.Encode(r, seq)
	if e != api.OK {
		t.Fatalf("Encode(%v, %d): error %d", r, seq, e)
	}
	image := make([]byte, api.Sectors*api.SectorSize)
	copy(image, b)
	d, e := disk.Of(image)
	if e != api.OK {
		t.Fatalf("Of: error %d", e)
	}
	return d
}

func TestExamples(t *testing.T) {
	d := disk.New()
	b := open(t, d)
	holds(t, b, state{1, 0, 0, rec(1, 16, 4)})
	writes(t, d, 2)
	for i := 1; i <= 16; i++ {
		next(t, b, i, api.OK)
	}
	writes(t, d, 2)
	next(t, b, 17, api.OK)
	holds(t, b, state{1, 17, 0, rec(1, 32, 4)})
	writes(t, d, 4)

	raise(t, b, 3, api.OK)
	holds(t, b, state{1, 17, 3, rec(1, 32, 4)})
	raise(t, b, 9, api.OK)
	holds(t, b, state{1, 17, 9, rec(1, 32, 12)})
	raise(t, b, 1048577, api.ErrEnd)

	c := open(t, d)
	holds(t, c, state{2, 32, 12, rec(2, 48, 16)})
	next(t, c, 33, api.OK)

	d.Fuse(1)
	refused(t, d, api.ErrOff)
	d.Restore()
	loads(t, d, rec(2, 48, 16))
}

func TestP1201FirstLife(t *testing.T) {
	for _, d := range []*disk.Disk{disk.New(), {}} {
		holds(t, open(t, d), state{1, 0, 0, rec(1, 16, 4)})
		loads(t, d, rec(1, 16, 4))
		writes(t, d, 2)
	}
}

func TestP1201SpoiltDiskHasNoRecord(t *testing.T) {
	d, e := disk.Of(bytes.Repeat([]byte{0xa5}, api.Sectors*api.SectorSize))
	if e != api.OK {
		t.Fatalf("Of: error %d", e)
	}
	holds(t, open(t, d), state{1, 0, 0, rec(1, 16, 4)})
	loads(t, d, rec(1, 16, 4))
}

func TestP1201LaterLives(t *testing.T) {
	for _, c := range []struct{ kept, begun api.Record }{
		{rec(1, 16, 4), rec(2, 32, 8)},
		{rec(1, 0, 0), rec(2, 16, 4)},
		{rec(7, 1, 0), rec(8, 17, 4)},
		{rec(7, 0, 1), rec(8, 16, 5)},
		{rec(api.MaxLife-1, 5, 5), rec(api.MaxLife, 21, 9)},
		{rec(1, api.MaxRound-17, 0), rec(2, api.MaxRound-1, 4)},
		{rec(1, api.MaxRound-16, 0), rec(2, api.MaxRound, 4)},
		{rec(1, api.MaxRound-15, 0), rec(2, api.MaxRound, 4)},
		{rec(1, api.MaxRound-1, 0), rec(2, api.MaxRound, 4)},
		{rec(1, api.MaxRound, 0), rec(2, api.MaxRound, 4)},
		{rec(1, 0, api.MaxTag-5), rec(2, 16, api.MaxTag-1)},
		{rec(1, 0, api.MaxTag-4), rec(2, 16, api.MaxTag)},
		{rec(1, 0, api.MaxTag-3), rec(2, 16, api.MaxTag)},
		{rec(1, 0, api.MaxTag), rec(2, 16, api.MaxTag)},
		{rec(api.MaxLife-1, api.MaxRound, api.MaxTag), rec(api.MaxLife, api.MaxRound, api.MaxTag)},
	} {
		for _, seq := range []int{1, 9, api.MaxNumber - 1} {
			d := having(t, c.kept, seq)
			holds(t, open(t, d), state{c.kept.Life + 1, c.kept.Round, c.kept.Tag, c.begun})
			loads(t, d, c.begun)
			writes(t, d, 2)
		}
	}
}

func TestP1201RefusedWithoutPower(t *testing.T) {
	refused(t, nil, api.ErrOff)
	d := disk.New()
	d.Cut()
	refused(t, d, api.ErrOff)
	// Without power nobody can tell that the lives have come to their end.
	d = having(t, rec(api.MaxLife, 0, 0), 1)
	d.Cut()
	refused(t, d, api.ErrOff)
}

func TestP1201EndOfLives(t *testing.T) {
	for _, seq := range []int{1, api.MaxNumber} {
		d := having(t, rec(api.MaxLife, 32, 8), seq)
		// The end is told ahead of the write that would fail.
		d.Fuse(0)
		refused(t, d, api.ErrEnd)
		if !d.On() || d.Left() != 0 {
			t.Fatalf("behind ErrEnd: power %v, fuse %d", d.On(), d.Left())
		}
		writes(t, d, 0)
	}
}

func TestP1201ErrorsOfSave(t *testing.T) {
	d := having(t, rec(3, 32, 8), api.MaxNumber)
	ahead := d.Image()
	refused(t, d, api.ErrEnd)
	if !bytes.Equal(d.Image(), ahead) {
		t.Fatal("behind a refused Open the disk has other bytes")
	}
	for fuse := range 2 {
		for _, kept := range []bool{false, true} {
			d := disk.New()
			begun := state{1, 0, 0, rec(1, 16, 4)}
			if kept {
				d = having(t, rec(3, 32, 8), 5)
				begun = state{4, 32, 8, rec(4, 48, 12)}
			}
			d.Fuse(fuse)
			refused(t, d, api.ErrOff)
			writes(t, d, fuse)
			refused(t, d, api.ErrOff)
			d.Restore()
			holds(t, open(t, d), begun)
		}
	}
}

func TestP1201KeepsTheDisk(t *testing.T) {
	d := disk.New()
	b := open(t, d)
	twin := d.Twin()
	raise(t, b, 100, api.OK)
	loads(t, d, rec(1, 16, 103))
	loads(t, twin, rec(1, 16, 4))
	d.Cut()
	next(t, b, 0, api.ErrOff)
	d.Restore()
	next(t, b, 1, api.OK)
}

func TestP1202ToldWithoutPower(t *testing.T) {
	d := disk.New()
	b := open(t, d)
	next(t, b, 1, api.OK)
	raise(t, b, 6, api.OK)
	d.Cut()
	holds(t, b, state{1, 1, 6, rec(1, 16, 9)})
	d.Restore()
	holds(t, b, state{1, 1, 6, rec(1, 16, 9)})
}

// An older Boot tells what it saved last, not what stands on the disk now.
func TestP1202DurableIsItsOwn(t *testing.T) {
	d := disk.New()
	b := open(t, d)
	c := open(t, d)
	holds(t, b, state{1, 0, 0, rec(1, 16, 4)})
	holds(t, c, state{2, 16, 4, rec(2, 32, 8)})
	raise(t, b, 5, api.OK)
	holds(t, b, state{1, 0, 5, rec(1, 16, 8)})
	holds(t, c, state{2, 16, 4, rec(2, 32, 8)})
	loads(t, d, rec(1, 16, 8))
}

func TestP1203Blocks(t *testing.T) {
	d := disk.New()
	b := open(t, d)
	raise(t, b, 2, api.OK)
	for i := 1; i <= 100; i++ {
		next(t, b, i, api.OK)
		block := (i + 15) / 16
		holds(t, b, state{1, i, 2, rec(1, 16*block, 4)})
		loads(t, d, rec(1, 16*block, 4))
		writes(t, d, 2*block)
	}
}

func TestP1203EndOfRounds(t *testing.T) {
	for left := range 40 {
		d := having(t, rec(4, api.MaxRound-left, 7), 1)
		b := open(t, d)
		for i := 1; i <= left; i++ {
			next(t, b, api.MaxRound-left+i, api.OK)
		}
		done := d.Writes()
		if want := 2 * max(1, (left+15)/16); done != want {
			t.Fatalf("%d rounds: %d writes, not %d", left, done, want)
		}
		holds(t, b, state{5, api.MaxRound, 7, rec(5, api.MaxRound, 11)})
		d.Fuse(0)
		next(t, b, 0, api.ErrEnd)
		next(t, b, 0, api.ErrEnd)
		writes(t, d, done)
		if !d.On() || d.Left() != 0 {
			t.Fatalf("behind ErrEnd: power %v, fuse %d", d.On(), d.Left())
		}
		// The power is asked for ahead of the rounds.
		d.Cut()
		next(t, b, 0, api.ErrOff)
		holds(t, b, state{5, api.MaxRound, 7, rec(5, api.MaxRound, 11)})
	}
}

func TestP1203RefusedSaveChangesNothing(t *testing.T) {
	for fuse := range 2 {
		d := disk.New()
		b := open(t, d)
		for i := 1; i <= 16; i++ {
			next(t, b, i, api.OK)
		}
		d.Fuse(fuse)
		next(t, b, 0, api.ErrOff)
		next(t, b, 0, api.ErrOff)
		holds(t, b, state{1, 16, 0, rec(1, 16, 4)})
		d.Restore()
		loads(t, d, rec(1, 16, 4))
		next(t, b, 17, api.OK)
		holds(t, b, state{1, 17, 0, rec(1, 32, 4)})
		loads(t, d, rec(1, 32, 4))
	}
	// Behind the last seq a block is used up, and no other one comes.
	d := having(t, rec(1, 16, 4), api.MaxNumber-1)
	b := open(t, d)
	for i := 17; i <= 32; i++ {
		next(t, b, i, api.OK)
	}
	next(t, b, 0, api.ErrEnd)
	holds(t, b, state{2, 32, 4, rec(2, 32, 8)})
}

// A round within the block is handed out without a write: so no fuse burns.
func TestP1203WithinABlock(t *testing.T) {
	d := disk.New()
	b := open(t, d)
	d.Fuse(0)
	for i := 1; i <= 16; i++ {
		next(t, b, i, api.OK)
	}
	if !d.On() {
		t.Fatal("the power is off")
	}
	d.Cut()
	next(t, b, 0, api.ErrOff)
	d.Restore()
	next(t, b, 0, api.ErrOff)
	if d.On() {
		t.Fatal("the power is on")
	}
}

func TestP1204Blocks(t *testing.T) {
	d := disk.New()
	b := open(t, d)
	next(t, b, 1, api.OK)
	for tag := 0; tag <= 40; tag++ {
		raise(t, b, tag, api.OK)
		block := max(1, (tag+3)/4)
		holds(t, b, state{1, 1, tag, rec(1, 16, 4*block)})
		loads(t, d, rec(1, 16, 4*block))
		writes(t, d, 2*block)
		for low := range tag + 1 {
			raise(t, b, low, api.OK)
			holds(t, b, state{1, 1, tag, rec(1, 16, 4*block)})
			writes(t, d, 2*block)
		}
	}
}

func TestP1204Leaps(t *testing.T) {
	for _, c := range []struct{ tag, durable int }{
		{4, 4}, {5, 8}, {6, 9}, {7, 10}, {8, 11}, {1000, 1003},
		{api.MaxTag - 5, api.MaxTag - 2}, {api.MaxTag - 4, api.MaxTag - 1}, {api.MaxTag - 3, api.MaxTag},
		{api.MaxTag - 2, api.MaxTag}, {api.MaxTag - 1, api.MaxTag}, {api.MaxTag, api.MaxTag},
	} {
		d := disk.New()
		b := open(t, d)
		raise(t, b, c.tag, api.OK)
		holds(t, b, state{1, 0, c.tag, rec(1, 16, c.durable)})
		loads(t, d, rec(1, 16, c.durable))
		d.Fuse(0)
		raise(t, b, c.durable, api.OK)
		holds(t, b, state{1, 0, c.durable, rec(1, 16, c.durable)})
		if !d.On() {
			t.Fatalf("tag %d: a write within what is durable", c.tag)
		}
	}
}

func TestP1204WrongTags(t *testing.T) {
	d := disk.New()
	b := open(t, d)
	raise(t, b, 2, api.OK)
	wrong := []struct {
		tag int
		e   api.Errno
	}{
		{-1, api.ErrArg}, {math.MinInt, api.ErrArg}, {api.MaxTag + 1, api.ErrEnd}, {math.MaxInt, api.ErrEnd},
	}
	for _, c := range wrong {
		d.Fuse(0)
		raise(t, b, c.tag, c.e)
		if !d.On() || d.Left() != 0 {
			t.Fatalf("behind Raise(%d): power %v, fuse %d", c.tag, d.On(), d.Left())
		}
		holds(t, b, state{1, 0, 2, rec(1, 16, 4)})
	}
	// The power is asked for ahead of the tag.
	d.Cut()
	for _, c := range wrong {
		raise(t, b, c.tag, api.ErrOff)
	}
	for _, tag := range []int{0, 1, 2, 3, 4, 5, api.MaxTag} {
		raise(t, b, tag, api.ErrOff)
	}
	holds(t, b, state{1, 0, 2, rec(1, 16, 4)})
	writes(t, d, 2)
}

func TestP1204RefusedSaveChangesNothing(t *testing.T) {
	for fuse := range 2 {
		d := disk.New()
		b := open(t, d)
		raise(t, b, 1, api.OK)
		d.Fuse(fuse)
		raise(t, b, 5, api.ErrOff)
		holds(t, b, state{1, 0, 1, rec(1, 16, 4)})
		d.Restore()
		loads(t, d, rec(1, 16, 4))
		raise(t, b, 4, api.OK)
		raise(t, b, 6, api.OK)
		holds(t, b, state{1, 0, 6, rec(1, 16, 9)})
		loads(t, d, rec(1, 16, 9))
	}
	d := having(t, rec(1, 16, 4), api.MaxNumber-1)
	b := open(t, d)
	raise(t, b, 9, api.ErrEnd)
	holds(t, b, state{2, 16, 4, rec(2, 32, 8)})
	raise(t, b, 8, api.OK)
	holds(t, b, state{2, 16, 8, rec(2, 32, 8)})
}

func TestP1205ZeroAndNil(t *testing.T) {
	var zero boot.Boot
	tags := []int{math.MinInt, -1, 0, 1, api.MaxTag, api.MaxTag + 1, math.MaxInt}
	for range 2 {
		holds(t, &zero, state{})
		next(t, &zero, 0, api.ErrOff)
		for _, tag := range tags {
			raise(t, &zero, tag, api.ErrOff)
		}
	}
	var none *boot.Boot
	holds(t, none, state{})
	next(t, none, 0, api.ErrArg)
	for _, tag := range tags {
		raise(t, none, tag, api.ErrArg)
	}
}

// The rounds of all lives, the power failing at each write of a start and of a block.
func TestP1206RoundsRise(t *testing.T) {
	d := disk.New()
	var all []int
	for i := range 60 {
		d.Restore()
		d.Fuse(i % 7)
		b, e := boot.Open(d)
		if e != api.OK {
			continue
		}
		for range i {
			if round, e := b.Next(); e == api.OK {
				all = append(all, round)
			}
		}
	}
	if len(all) < 500 {
		t.Fatalf("%d rounds: too few to tell anything", len(all))
	}
	if !slices.IsSorted(all) || len(slices.Compact(slices.Clone(all))) != len(all) {
		t.Fatalf("rounds that do not rise: %s", fmt.Sprint(all)[:200])
	}
}

func TestP1206TagsDoNotFall(t *testing.T) {
	d := disk.New()
	greatest := 0
	raised := 0
	for i := range 60 {
		d.Restore()
		d.Fuse(i % 5)
		b, e := boot.Open(d)
		if e != api.OK {
			continue
		}
		if b.Tag() < greatest {
			t.Fatalf("start %d: the tag %d, below %d", i, b.Tag(), greatest)
		}
		for j := range i {
			if b.Raise(b.Tag()+j) == api.OK {
				raised++
			}
			greatest = max(greatest, b.Tag())
		}
	}
	if raised < 50 {
		t.Fatalf("%d raises: too few to tell anything", raised)
	}
}
