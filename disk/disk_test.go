package disk_test

import (
	"bytes"
	"math"
	"testing"

	"earshot/api"
	"earshot/disk"
)

const whole = api.Sectors * api.SectorSize

// row makes n bytes that are all c.
func row(c byte, n int) []byte { return bytes.Repeat([]byte{c}, n) }

// full makes a sector's bytes.
func full(c byte) []byte { return row(c, api.SectorSize) }

// mixed makes an image in which no two bytes that stand side by side, or a sector apart, are alike.
func mixed() []byte {
	image := make([]byte, whole)
	for i := range image {
		image[i] = byte(i + i/api.SectorSize*3 + 1)
	}
	return image
}

// state is all that a disk tells beside its sectors.
type state struct {
	on           bool
	left, writes int
}

func stateOf(d *disk.Disk) state { return state{d.On(), d.Left(), d.Writes()} }

// is holds all that a disk tells against what it should tell, without a change of it.
func is(t testing.TB, what string, d *disk.Disk, want state, image []byte) {
	t.Helper()
	if got := stateOf(d); got != want {
		t.Fatalf("%s: on, left, writes: %v, not %v", what, got, want)
	}
	if got := d.Image(); !bytes.Equal(got, image) {
		t.Fatalf("%s: Image: %x, not %x", what, got, image)
	}
	for i := -1; i <= api.Sectors; i++ {
		read(t, what, d, i, want.on, image)
	}
	if got := stateOf(d); got != want {
		t.Fatalf("%s: on, left, writes behind the reads: %v, not %v", what, got, want)
	}
}

// read holds one Read against what it should tell.
func read(t testing.TB, what string, d *disk.Disk, sector int, on bool, image []byte) {
	t.Helper()
	var want []byte
	wantError := api.OK
	switch {
	case !on:
		wantError = api.ErrOff
	case sector < 0 || sector >= api.Sectors:
		wantError = api.ErrSector
	default:
		want = image[sector*api.SectorSize:][:api.SectorSize]
	}
	if got, e := d.Read(sector); !bytes.Equal(got, want) || e != wantError {
		t.Fatalf("%s: Read(%d): %x, error %d, not %x, error %d", what, sector, got, e, want, wantError)
	}
}

// write writes, and holds the answer against what it should be.
func write(t testing.TB, d *disk.Disk, sector int, data []byte, want api.Errno) {
	t.Helper()
	if got := d.Write(sector, data); got != want {
		t.Fatalf("Write(%d, %d bytes): error %d, not %d", sector, len(data), got, want)
	}
}

// of makes a disk of an image that is known to be right.
func of(t testing.TB, image []byte) *disk.Disk {
	t.Helper()
	d, e := disk.Of(image)
	if d == nil || e != api.OK {
		t.Fatalf("Of(%d bytes): %v, error %d", len(image), d, e)
	}
	return d
}

func TestExamples(t *testing.T) {
	d, x := disk.New(), full('x')
	write(t, d, 8, x, api.ErrSector)
	write(t, d, 0, x[:31], api.ErrSize)
	write(t, d, 0, x, api.OK)
	if got := d.Writes(); got != 1 {
		t.Errorf("Writes: %d, not 1", got)
	}
	d.Fuse(1)
	write(t, d, 1, x, api.OK)
	if got := d.Left(); got != 0 {
		t.Errorf("Left: %d, not 0", got)
	}
	write(t, d, 2, x, api.ErrOff)
	if on, left := d.On(), d.Left(); on || left != -1 {
		t.Errorf("On, Left: %v, %d, not false, -1", on, left)
	}
	if got, e := d.Read(1); len(got) != 0 || e != api.ErrOff {
		t.Errorf("Read(1): %x, error %d, not ErrOff", got, e)
	}
	d.Restore()
	if got, e := d.Read(1); !bytes.Equal(got, x) || e != api.OK {
		t.Errorf("Read(1): %x, error %d, not %x", got, e, x)
	}
	if got, e := d.Read(2); !bytes.Equal(got, make([]byte, 32)) || e != api.OK {
		t.Errorf("Read(2): %x, error %d, not noughts", got, e)
	}
}

func TestP1001New(t *testing.T) {
	is(t, "New", disk.New(), state{true, -1, 0}, make([]byte, whole))
	var zero disk.Disk
	is(t, "a zero disk", &zero, state{true, -1, 0}, make([]byte, whole))
}

func TestP1001TwoNewOnesAreTwo(t *testing.T) {
	one, other := disk.New(), disk.New()
	write(t, one, 3, full('a'), api.OK)
	one.Fuse(4)
	one.Cut()
	is(t, "the other", other, state{true, -1, 0}, make([]byte, whole))
}

func TestP1001AZeroDiskIsUsed(t *testing.T) {
	var zero disk.Disk
	want := make([]byte, whole)
	copy(want[5*api.SectorSize:], full('a'))
	zero.Fuse(1)
	write(t, &zero, 5, full('a'), api.OK)
	is(t, "behind a write", &zero, state{true, 0, 1}, want)
	write(t, &zero, 6, full('b'), api.ErrOff)
	is(t, "behind the fuse", &zero, state{false, -1, 1}, want)
}

func TestP1001Of(t *testing.T) {
	image := mixed()
	is(t, "Of", of(t, image), state{true, -1, 0}, mixed())
	if !bytes.Equal(image, mixed()) {
		t.Error("Of has changed what it was given")
	}
	sector, e := of(t, image).Read(6)
	if !bytes.Equal(sector, image[192:224]) || e != api.OK {
		t.Errorf("Read(6): %x, error %d, not %x", sector, e, image[192:224])
	}
}

func TestP1001OfIsRefused(t *testing.T) {
	for _, n := range []int{0, 1, api.SectorSize, whole - api.SectorSize, whole - 1, whole + 1, whole + api.SectorSize, 2 * whole} {
		if d, e := disk.Of(make([]byte, n)); d != nil || e != api.ErrSize {
			t.Errorf("Of(%d bytes): %v, error %d, not nil, ErrSize", n, d, e)
		}
	}
	if d, e := disk.Of(nil); d != nil || e != api.ErrSize {
		t.Errorf("Of(nil): %v, error %d, not nil, ErrSize", d, e)
	}
	if d, e := disk.Of(make([]byte, whole-1, whole)); d != nil || e != api.ErrSize {
		t.Errorf("Of(255 bytes with room for 256): %v, error %d, not nil, ErrSize", d, e)
	}
}

func TestP1001OfKeepsNothing(t *testing.T) {
	image := mixed()
	d := of(t, image)
	clear(image)
	is(t, "Of", d, state{true, -1, 0}, mixed())
	image = mixed()
	d = of(t, image)
	for i := range api.Sectors {
		write(t, d, i, full('z'), api.OK)
	}
	if !bytes.Equal(image, mixed()) {
		t.Error("a write has changed what Of was given")
	}
}

func TestP1002Fuse(t *testing.T) {
	for _, c := range []struct{ k, want int }{
		{0, 0}, {1, 1}, {2, 2}, {1000, 1000}, {math.MaxInt, math.MaxInt},
		{-1, -1}, {-2, -1}, {-7, -1}, {math.MinInt, -1},
	} {
		for _, ahead := range []int{-1, 0, 3, math.MaxInt} {
			on, off := of(t, mixed()), of(t, mixed())
			on.Fuse(ahead)
			on.Fuse(c.k)
			is(t, "with power", on, state{true, c.want, 0}, mixed())
			off.Fuse(ahead)
			off.Cut()
			off.Fuse(c.k)
			is(t, "without power", off, state{false, c.want, 0}, mixed())
			off.Restore()
			is(t, "with power again", off, state{true, c.want, 0}, mixed())
		}
	}
}

func TestP1002AFuseIsTakenOut(t *testing.T) {
	d := disk.New()
	d.Fuse(0)
	d.Fuse(-1)
	for range 5 {
		write(t, d, 0, full('a'), api.OK)
	}
	if got := stateOf(d); got != (state{true, -1, 5}) {
		t.Errorf("on, left, writes: %v, not true, -1, 5", got)
	}
}

func TestP1003Write(t *testing.T) {
	d, want := of(t, mixed()), mixed()
	for i := range 3 * api.Sectors {
		sector := i * 5 % api.Sectors
		data := full(byte(100 + i))
		data[i] ^= 255
		copy(want[sector*api.SectorSize:], data)
		write(t, d, sector, data, api.OK)
		is(t, "behind a write", d, state{true, -1, i + 1}, want)
	}
}

func TestP1003WriteIsRefused(t *testing.T) {
	for _, c := range []struct {
		sector, size int
		want         api.Errno
	}{
		{-1, 32, api.ErrSector}, {8, 32, api.ErrSector}, {9, 32, api.ErrSector},
		{math.MinInt, 32, api.ErrSector}, {math.MaxInt, 32, api.ErrSector}, {1 << 32, 32, api.ErrSector}, {256, 32, api.ErrSector},
		{-1, 31, api.ErrSector}, {8, 0, api.ErrSector}, {8, 33, api.ErrSector},
		{0, 0, api.ErrSize}, {0, 31, api.ErrSize}, {7, 33, api.ErrSize}, {3, 64, api.ErrSize}, {0, 256, api.ErrSize},
	} {
		for _, fuse := range []int{-1, 0, 1} {
			d := of(t, mixed())
			d.Fuse(fuse)
			write(t, d, c.sector, row('x', c.size), c.want)
			is(t, "behind a refused write", d, state{true, fuse, 0}, mixed())
			d.Cut()
			write(t, d, c.sector, row('x', c.size), api.ErrOff)
			d.Restore()
			is(t, "behind a write without power", d, state{true, fuse, 0}, mixed())
		}
	}
	write(t, disk.New(), 0, nil, api.ErrSize)
	write(t, disk.New(), 0, make([]byte, 31, 32), api.ErrSize)
	write(t, disk.New(), 0, make([]byte, 32, 33), api.OK)
}

func TestP1003TheFuseBurns(t *testing.T) {
	for k := range 20 {
		d, want := of(t, mixed()), mixed()
		d.Fuse(k)
		for i := range k {
			sector := i % api.Sectors
			copy(want[sector*api.SectorSize:], full(byte(i)))
			write(t, d, sector, full(byte(i)), api.OK)
			is(t, "as it burns", d, state{true, k - i - 1, i + 1}, want)
		}
		write(t, d, k%api.Sectors, full('x'), api.ErrOff)
		is(t, "burnt down", d, state{false, -1, k}, want)
		write(t, d, 0, full('x'), api.ErrOff)
		is(t, "without power", d, state{false, -1, k}, want)
		d.Restore()
		copy(want, full('y'))
		for i := range 3 {
			write(t, d, 0, full('y'), api.OK)
			is(t, "with power again", d, state{true, -1, k + i + 1}, want)
		}
	}
}

func TestP1003ALongFuseBurns(t *testing.T) {
	d := disk.New()
	d.Fuse(math.MaxInt)
	write(t, d, 0, full('a'), api.OK)
	if got := d.Left(); got != math.MaxInt-1 {
		t.Errorf("Left: %d, not one less than the greatest int", got)
	}
}

func TestP1003WithoutPowerNoFuseBurns(t *testing.T) {
	d := disk.New()
	d.Fuse(2)
	d.Cut()
	write(t, d, 0, full('a'), api.ErrOff)
	write(t, d, 1, full('a'), api.ErrOff)
	write(t, d, 2, full('a'), api.ErrOff)
	is(t, "without power", d, state{false, 2, 0}, make([]byte, whole))
}

func TestP1003WriteKeepsNothing(t *testing.T) {
	d, data := disk.New(), append(full('a'), 'p', 'q')
	want := make([]byte, whole)
	copy(want[2*api.SectorSize:], full('a'))
	write(t, d, 2, data[:api.SectorSize], api.OK)
	if !bytes.Equal(data, append(full('a'), 'p', 'q')) {
		t.Errorf("Write has changed what it was given: %q", data)
	}
	clear(data)
	is(t, "Write", d, state{true, -1, 1}, want)
	data = full('b')
	write(t, d, 2, data, api.OK)
	write(t, d, 2, full('c'), api.OK)
	if !bytes.Equal(data, full('b')) {
		t.Errorf("a later Write has changed what an earlier one was given: %q", data)
	}
}

func TestP1004Read(t *testing.T) {
	d, want := of(t, mixed()), mixed()
	for i := range api.Sectors {
		got, e := d.Read(i)
		if !bytes.Equal(got, want[i*32:i*32+32]) || e != api.OK {
			t.Errorf("Read(%d): %x, error %d, not %x", i, got, e, want[i*32:i*32+32])
		}
	}
	for _, i := range []int{-1, 8, 9, 256, 1 << 32, math.MinInt, math.MaxInt} {
		if got, e := d.Read(i); len(got) != 0 || e != api.ErrSector {
			t.Errorf("Read(%d): %x, error %d, not ErrSector", i, got, e)
		}
	}
	d.Cut()
	for _, i := range []int{0, 7, -1, 8, math.MinInt, math.MaxInt} {
		if got, e := d.Read(i); len(got) != 0 || e != api.ErrOff {
			t.Errorf("without power Read(%d): %x, error %d, not ErrOff", i, got, e)
		}
	}
}

func TestP1004AReadBurnsNoFuse(t *testing.T) {
	d := of(t, mixed())
	d.Fuse(0)
	for range 3 {
		is(t, "reads", d, state{true, 0, 0}, mixed())
	}
}

func TestP1004ReadIsNewMemory(t *testing.T) {
	d := of(t, mixed())
	one, _ := d.Read(4)
	other, _ := d.Read(4)
	clear(one)
	if !bytes.Equal(other, mixed()[128:160]) {
		t.Errorf("what one Read answered is changed by way of another: %x", other)
	}
	is(t, "Read", d, state{true, -1, 0}, mixed())
	write(t, d, 4, full('n'), api.OK)
	if !bytes.Equal(other, mixed()[128:160]) {
		t.Errorf("what Read answered is changed by a Write: %x", other)
	}
}

func TestP1004WhatIsReadHasNoRoomBehindIt(t *testing.T) {
	d := of(t, mixed())
	for i := range api.Sectors {
		got, _ := d.Read(i)
		if cap(got) != api.SectorSize {
			t.Errorf("Read(%d) has room for %d bytes, not %d", i, cap(got), api.SectorSize)
		}
		_ = append(got, full('x')...)
	}
	is(t, "Read", d, state{true, -1, 0}, mixed())
}

func TestP1004CutAndRestore(t *testing.T) {
	for _, fuse := range []int{-1, 0, 6} {
		d := of(t, mixed())
		d.Fuse(fuse)
		d.Restore()
		is(t, "Restore of one that is on", d, state{true, fuse, 0}, mixed())
		for range 2 {
			d.Cut()
			is(t, "Cut", d, state{false, fuse, 0}, mixed())
		}
		for range 2 {
			d.Restore()
			is(t, "Restore", d, state{true, fuse, 0}, mixed())
		}
	}
}

func TestP1004CutAndRestoreLeaveTheWrites(t *testing.T) {
	d := disk.New()
	write(t, d, 7, full('a'), api.OK)
	write(t, d, 7, full('a'), api.OK)
	d.Cut()
	if got := d.Writes(); got != 2 {
		t.Errorf("Writes without power: %d, not 2", got)
	}
	d.Restore()
	write(t, d, 7, full('b'), api.OK)
	if got := d.Writes(); got != 3 {
		t.Errorf("Writes: %d, not 3", got)
	}
}

func TestP1004ImageIsNewMemory(t *testing.T) {
	d := of(t, mixed())
	one, other := d.Image(), d.Image()
	clear(one)
	if !bytes.Equal(other, mixed()) {
		t.Error("what one Image answered is changed by way of another")
	}
	is(t, "Image", d, state{true, -1, 0}, mixed())
	write(t, d, 0, full('n'), api.OK)
	if !bytes.Equal(other, mixed()) {
		t.Error("what Image answered is changed by a Write")
	}
}

// worn makes a disk of which nothing is as at first.
func worn(t testing.TB) (*disk.Disk, []byte) {
	d, image := of(t, mixed()), mixed()
	copy(image[32:], full('w'))
	write(t, d, 1, full('w'), api.OK)
	d.Fuse(5)
	d.Cut()
	return d, image
}

func TestP1004Twin(t *testing.T) {
	d, image := worn(t)
	twin := d.Twin()
	if twin == d {
		t.Fatal("a twin is the disk itself")
	}
	is(t, "the twin", twin, state{false, 5, 1}, image)
	is(t, "the disk", d, state{false, 5, 1}, image)
	is(t, "a twin of a new one", disk.New().Twin(), state{true, -1, 0}, make([]byte, whole))
}

func TestP1004ATwinIsOfItsOwn(t *testing.T) {
	d, image := worn(t)
	twin := d.Twin()
	twin.Restore()
	write(t, twin, 2, full('t'), api.OK)
	is(t, "the disk", d, state{false, 5, 1}, image)
	other := append([]byte(nil), image...)
	copy(other[64:], full('t'))
	is(t, "the twin", twin, state{true, 4, 2}, other)
	d.Restore()
	d.Fuse(0)
	write(t, d, 3, full('d'), api.ErrOff)
	is(t, "the disk", d, state{false, -1, 1}, image)
	is(t, "the twin", twin, state{true, 4, 2}, other)
}

func TestP1005Nil(t *testing.T) {
	var d *disk.Disk
	d.Fuse(3)
	d.Restore()
	d.Cut()
	d.Restore()
	if got := stateOf(d); got != (state{false, -1, 0}) {
		t.Errorf("on, left, writes: %v, not false, -1, 0", got)
	}
	for _, sector := range []int{0, 7, -1, 8} {
		for _, size := range []int{32, 0, 33} {
			write(t, d, sector, row('x', size), api.ErrOff)
		}
		if got, e := d.Read(sector); len(got) != 0 || e != api.ErrOff {
			t.Errorf("Read(%d): %x, error %d, not ErrOff", sector, got, e)
		}
	}
	if got := d.Image(); len(got) != 0 {
		t.Errorf("Image: %x, not without a byte", got)
	}
	if d.Twin() != nil {
		t.Error("Twin is not nil")
	}
}
