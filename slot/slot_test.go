package slot_test

import (
	"bytes"
	"encoding/hex"
	"math"
	"slices"
	"strings"
	"testing"

	"earshot/api"
	"earshot/disk"
	"earshot/slot"
)

const (
	slotSize = 2 * api.SectorSize
	diskSize = api.Sectors * api.SectorSize
)

// rec is short for a record.
func rec(life, round, tag int) api.Record { return api.Record{Life: life, Round: round, Tag: tag} }

// told is what Decode and Load tell.
type told struct {
	r   api.Record
	seq int
	e   api.Errno
}

func decoded(b []byte) told {
	r, seq, e := slot.Decode(b)
	return told{r, seq, e}
}

func loaded(d *disk.Disk) told {
	r, seq, e := slot.Load(d)
	return told{r, seq, e}
}

// good are records that may be, the greatest and the least of each field among them.
func good() []api.Record {
	return []api.Record{
		rec(1, 0, 0), rec(1, 16, 4), rec(2, 32, 8), rec(api.MaxLife, 0, 0), rec(1, api.MaxRound, 0), rec(1, 0, api.MaxTag),
		rec(api.MaxLife, api.MaxRound, api.MaxTag), rec(0x12345678, 0x9abcdef012, 0x0fedcb), rec(256, 255, 256), rec(255, 256, 255),
	}
}

// bad are records that may not be.
func bad() []api.Record {
	return []api.Record{
		{}, rec(0, 1, 1), rec(-1, 0, 0), rec(api.MaxLife+1, 0, 0), rec(math.MinInt, 0, 0), rec(math.MaxInt, 0, 0), rec(1<<32+1, 0, 0),
		rec(1, -1, 0), rec(1, api.MaxRound+1, 0), rec(1, math.MinInt, 0), rec(1, math.MaxInt, 0), rec(1, 1<<41+1, 0),
		rec(1, 0, -1), rec(1, 0, api.MaxTag+1), rec(1, 0, math.MinInt), rec(1, 0, math.MaxInt), rec(1, 0, 1<<24+1),
	}
}

// seqs are those that may be, the edges among them.
func seqs() []int { return []int{1, 2, 255, 256, 0x1234567890, api.MaxNumber - 1, api.MaxNumber} }

// encode makes a slot of what is known to be right.
func encode(t testing.TB, r api.Record, seq int) []byte {
	t.Helper()
	b, e := slot.Encode(r, seq)
	if len(b) != slotSize || e != api.OK {
		t.Fatalf("Encode(%v, %d): %x, error %d", r, seq, b, e)
	}
	return b
}

// of makes a disk of two slots' bytes; behind them stand bytes that nobody may touch.
func of(t testing.TB, first, second []byte) *disk.Disk {
	t.Helper()
	rest := bytes.Repeat([]byte{0xa5}, diskSize-len(first)-len(second))
	d, e := disk.Of(slices.Concat(first, second, rest))
	if e != api.OK {
		t.Fatalf("Of: error %d", e)
	}
	return d
}

// save saves, and holds the answer against what it should be.
func save(t testing.TB, d *disk.Disk, r api.Record, want api.Errno) {
	t.Helper()
	if got := slot.Save(d, r); got != want {
		t.Fatalf("Save(%v): error %d, not %d", r, got, want)
	}
}

// load holds what Load tells against what it should tell.
func load(t testing.TB, d *disk.Disk, want told) {
	t.Helper()
	if got := loaded(d); got != want {
		t.Fatalf("Load: %v, not %v", got, want)
	}
}

func TestExamples(t *testing.T) {
	want, _ := hex.DecodeString("656172310000000000000001000000010000000010" + strings.Repeat("00", 11) +
		"656172320000000000000001000004" + strings.Repeat("00", 17))
	if got := encode(t, rec(1, 16, 4), 1); !bytes.Equal(got, want) {
		t.Errorf("Encode: %x, not %x", got, want)
	}
	if b, e := slot.Encode(rec(0, 1, 1), 1); len(b) != 0 || e != api.ErrArg {
		t.Errorf("Encode of no life: %x, error %d, not ErrArg", b, e)
	}
	if b, e := slot.Encode(rec(1, 0, 0), 0); len(b) != 0 || e != api.ErrArg {
		t.Errorf("Encode of the seq 0: %x, error %d, not ErrArg", b, e)
	}
	if got := decoded(make([]byte, 63)); got != (told{e: api.ErrSize}) {
		t.Errorf("Decode(63 bytes): %v, not ErrSize", got)
	}
	if got := decoded(make([]byte, 64)); got != (told{e: api.ErrMagic}) {
		t.Errorf("Decode(64 noughts): %v, not ErrMagic", got)
	}
	d := disk.New()
	load(t, d, told{e: api.ErrNone})
	save(t, d, rec(1, 16, 4), api.OK)
	save(t, d, rec(1, 32, 4), api.OK)
	load(t, d, told{rec(1, 32, 4), 2, api.OK})
	d.Fuse(1)
	save(t, d, rec(1, 48, 4), api.ErrOff)
	d.Restore()
	load(t, d, told{rec(1, 32, 4), 2, api.OK})
}

func TestP1101Form(t *testing.T) {
	for _, r := range good() {
		for _, seq := range seqs() {
			if got, want := hex.EncodeToString(encode(t, r, seq)), form(r, seq); got != want {
				t.Errorf("Encode(%v, %d): %s, not %s", r, seq, got, want)
			}
		}
	}
	got := hex.EncodeToString(encode(t, rec(0x12345678, 0x9abcdef012, 0x0fedcb), 0x1234567890))
	want := "65617231" + "0000001234567890" + "12345678" + "9abcdef012" + "0000000000000000000000" +
		"65617232" + "0000001234567890" + "0fedcb" + "0000000000000000000000000000000000"
	if got != want {
		t.Errorf("Encode: %s, not %s", got, want)
	}
}

func TestP1101WhereTheSlotsStand(t *testing.T) {
	d := of(t, make([]byte, slotSize), make([]byte, slotSize))
	want := d.Image()
	for i := range 6 {
		save(t, d, rec(1, i, 4), api.OK)
		copy(want[i%2*slotSize:], encode(t, rec(1, i, 4), i+1))
		if got := d.Image(); !bytes.Equal(got, want) {
			t.Fatalf("behind the save %d: %x, not %x", i+1, got, want)
		}
		if got := d.Writes(); got != 2*i+2 {
			t.Fatalf("behind the save %d: %d writes, not %d", i+1, got, 2*i+2)
		}
	}
}

func TestP1102EncodeIsRefused(t *testing.T) {
	refused := func(r api.Record, seq int) {
		t.Helper()
		if b, e := slot.Encode(r, seq); len(b) != 0 || e != api.ErrArg {
			t.Errorf("Encode(%v, %d): %x, error %d, not ErrArg", r, seq, b, e)
		}
	}
	for _, r := range bad() {
		for _, seq := range append(seqs(), 0, -1) {
			refused(r, seq)
		}
	}
	for _, seq := range []int{0, -1, math.MinInt, math.MaxInt, api.MaxNumber + 1, 1<<41 + 1} {
		for _, r := range append(good(), bad()...) {
			refused(r, seq)
		}
	}
}

func TestP1102EncodeIsNewMemory(t *testing.T) {
	one, other := encode(t, rec(1, 16, 4), 9), encode(t, rec(1, 16, 4), 9)
	clear(one)
	_ = append(one, 7)
	if got := hex.EncodeToString(other); got != form(rec(1, 16, 4), 9) {
		t.Errorf("what one Encode told is changed by way of another: %s", got)
	}
}

func TestP1102Decode(t *testing.T) {
	for _, r := range good() {
		for _, seq := range seqs() {
			b := encode(t, r, seq)
			ahead := slices.Clone(b)
			if got, want := decoded(b), (told{r, seq, api.OK}); got != want {
				t.Errorf("Decode(%x): %v, not %v", b, got, want)
			}
			if !bytes.Equal(b, ahead) {
				t.Errorf("Decode has changed what it was given: %x, not %x", b, ahead)
			}
		}
	}
}

func TestP1102DecodeAnotherSize(t *testing.T) {
	b := append(encode(t, rec(1, 16, 4), 1), encode(t, rec(1, 16, 4), 1)...)
	for size := range len(b) + 1 {
		want := told{e: api.ErrSize}
		if size == slotSize {
			want = told{rec(1, 16, 4), 1, api.OK}
		}
		if got := decoded(b[:size]); got != want {
			t.Errorf("Decode(%d bytes): %v, not %v", size, got, want)
		}
		if got := decoded(make([]byte, size)); size != slotSize && got != want {
			t.Errorf("Decode(%d noughts): %v, not %v", size, got, want)
		}
	}
	if got := decoded(nil); got != (told{e: api.ErrSize}) {
		t.Errorf("Decode(nil): %v, not ErrSize", got)
	}
}

// Each byte of some slots is turned into each other one: in most places nothing may be told then, in some another record.
func TestP1102DecodeWithOneByteTurned(t *testing.T) {
	for _, r := range good() {
		for _, seq := range []int{1, 256, api.MaxNumber} {
			b := encode(t, r, seq)
			for at, was := range b {
				for c := range 256 {
					b[at] = byte(c)
					if got, want := decoded(b), plainDecode(b); got != want {
						t.Fatalf("Decode(%x): %v, not %v", b, got, want)
					}
				}
				b[at] = was
			}
		}
	}
}

// Both seqs may be alike, and still be none.
func TestP1102DecodeASeqThatIsNone(t *testing.T) {
	for _, seq := range []string{"0000000000000000", "0000010000000001", "0000020000000000", "7fffffffffffffff", "8000000000000000", "8000000000000001", "ffffffffffffffff"} {
		text := strings.ReplaceAll(form(rec(1, 16, 4), 0x77), "0000000000000077", seq)
		b, _ := hex.DecodeString(text)
		if got := decoded(b); got != (told{e: api.ErrMagic}) {
			t.Errorf("Decode with the seq %s: %v, not ErrMagic", seq, got)
		}
	}
}

func TestP1102DecodeARecordThatMayNotBe(t *testing.T) {
	for _, c := range []struct{ life, round, tag string }{
		{"00000000", "0000000000", "000000"}, {"40000001", "0000000000", "000000"}, {"80000000", "0000000001", "000000"}, {"ffffffff", "0000000001", "000000"},
		{"00000001", "0000000000", "100001"}, {"00000001", "0000000000", "200000"}, {"00000001", "0000000000", "ffffff"},
	} {
		b, _ := hex.DecodeString("65617231" + "0000000000000001" + c.life + c.round + strings.Repeat("00", 11) + "65617232" + "0000000000000001" + c.tag + strings.Repeat("00", 17))
		if got := decoded(b); got != (told{e: api.ErrMagic}) {
			t.Errorf("Decode with %v: %v, not ErrMagic", c, got)
		}
	}
}

func TestP1103Load(t *testing.T) {
	none := make([]byte, slotSize)
	a, b := rec(7, 7, 7), rec(8, 8, 8)
	for _, c := range []struct {
		what          string
		first, second []byte
		want          told
	}{
		{"none", none, none, told{e: api.ErrNone}},
		{"the slot 0 alone", encode(t, a, 5), none, told{a, 5, api.OK}},
		{"the slot 1 alone", none, encode(t, b, 5), told{b, 5, api.OK}},
		{"the slot 0 is newer", encode(t, a, 6), encode(t, b, 5), told{a, 6, api.OK}},
		{"the slot 1 is newer", encode(t, a, 5), encode(t, b, 6), told{b, 6, api.OK}},
		{"one seq", encode(t, a, 5), encode(t, b, 5), told{a, 5, api.OK}},
		{"one seq, the other way", encode(t, b, 5), encode(t, a, 5), told{b, 5, api.OK}},
		{"far apart", encode(t, a, 1), encode(t, b, api.MaxNumber), told{b, api.MaxNumber, api.OK}},
		{"by numbers, not by bytes", encode(t, a, 255), encode(t, b, 256), told{b, 256, api.OK}},
		{"the sectors of two slots", append(encode(t, a, 1)[:32], encode(t, b, 1)[32:]...), none, told{rec(7, 7, 8), 1, api.OK}},
		{"a torn newer one", append(encode(t, a, 9)[:32], encode(t, a, 7)[32:]...), encode(t, b, 8), told{b, 8, api.OK}},
		{"both torn", append(encode(t, a, 9)[:32], encode(t, a, 7)[32:]...), encode(t, b, 8)[:32], told{e: api.ErrNone}},
		{"half a slot further on", slices.Concat(none[:32], encode(t, a, 1)), none[:32], told{e: api.ErrNone}},
		{"behind the slots", none, append(none, encode(t, a, 1)...), told{e: api.ErrNone}},
		{"the sectors exchanged", append(encode(t, a, 1)[32:], encode(t, a, 1)[:32]...), none, told{e: api.ErrNone}},
	} {
		d := of(t, c.first, c.second)
		d.Fuse(0)
		image := d.Image()
		if got := loaded(d); got != c.want {
			t.Errorf("%s: %v, not %v", c.what, got, c.want)
		}
		if !bytes.Equal(d.Image(), image) || d.Left() != 0 || d.Writes() != 0 || !d.On() {
			t.Errorf("%s: Load has changed the disk", c.what)
		}
		d.Cut()
		if got := loaded(d); got != (told{e: api.ErrOff}) {
			t.Errorf("%s, without power: %v, not ErrOff", c.what, got)
		}
	}
	load(t, nil, told{e: api.ErrOff})
	load(t, &disk.Disk{}, told{e: api.ErrNone})
}

func TestP1104SaveIsRefused(t *testing.T) {
	newer, last := encode(t, rec(1, 1, 1), 5), encode(t, rec(2, 2, 2), api.MaxNumber)
	for _, fuse := range []int{-1, 0, 1} {
		for _, slots := range [][2][]byte{{newer, last}, {last, newer}, {newer, newer}} {
			ended := bytes.Equal(slots[0], last) || bytes.Equal(slots[1], last)
			d := of(t, slots[0], slots[1])
			d.Fuse(fuse)
			image := d.Image()
			for _, r := range bad() {
				save(t, d, r, api.ErrArg)
			}
			if ended {
				save(t, d, rec(1, 16, 4), api.ErrEnd)
			}
			d.Cut()
			save(t, d, rec(0, 16, 4), api.ErrArg)
			save(t, d, rec(1, 16, 4), api.ErrOff)
			if got := d.Image(); !bytes.Equal(got, image) || d.Left() != fuse || d.Writes() != 0 || d.On() {
				t.Errorf("a refused Save has changed the disk: %x, not %x, fuse %d", got, image, d.Left())
			}
		}
	}
	save(t, nil, rec(1, 16, 4), api.ErrOff)
	save(t, nil, rec(0, 16, 4), api.ErrArg)
}

func TestP1104TheLastSeq(t *testing.T) {
	d := of(t, encode(t, rec(1, 1, 1), api.MaxNumber-2), encode(t, rec(2, 2, 2), api.MaxNumber-1))
	save(t, d, rec(3, 3, 3), api.OK)
	load(t, d, told{rec(3, 3, 3), api.MaxNumber, api.OK})
	save(t, d, rec(4, 4, 4), api.ErrEnd)
	load(t, d, told{rec(3, 3, 3), api.MaxNumber, api.OK})
	if got := d.Writes(); got != 2 {
		t.Errorf("%d writes, not 2", got)
	}
}

// A slot that can't be read does not hold Save up, whatever seq it would have.
func TestP1104ASpoiltSlotDoesNotCount(t *testing.T) {
	spoilt := encode(t, rec(1, 1, 1), api.MaxNumber)
	spoilt[31] = 1
	d := of(t, encode(t, rec(2, 2, 2), 7), spoilt)
	save(t, d, rec(3, 3, 3), api.OK)
	load(t, d, told{rec(3, 3, 3), 8, api.OK})
	if got := decoded(d.Image()[:slotSize]); got != (told{rec(2, 2, 2), 7, api.OK}) {
		t.Errorf("the slot 0: %v, not as it was", got)
	}
}

func TestP1104OfTwoWithOneSeqTheSlot1IsWritten(t *testing.T) {
	d := of(t, encode(t, rec(7, 7, 7), 5), encode(t, rec(8, 8, 8), 5))
	save(t, d, rec(9, 9, 9), api.OK)
	if got, want := d.Image()[:2*slotSize], append(encode(t, rec(7, 7, 7), 5), encode(t, rec(9, 9, 9), 6)...); !bytes.Equal(got, want) {
		t.Errorf("%x, not %x", got, want)
	}
}

// With a fuse of 1 the first sector is the new one's, the second one still the old one's.
func TestP1104TheFirstSectorIsWrittenFirst(t *testing.T) {
	old, now := encode(t, rec(1, 1, 1), 3), encode(t, rec(3, 3, 3), 5)
	d := of(t, old, encode(t, rec(2, 2, 2), 4))
	d.Fuse(1)
	save(t, d, rec(3, 3, 3), api.ErrOff)
	if got, want := d.Image()[:slotSize], append(now[:32:32], old[32:]...); !bytes.Equal(got, want) {
		t.Errorf("the slot 0: %x, not %x", got, want)
	}
	if d.On() || d.Writes() != 1 || d.Left() != -1 {
		t.Errorf("on %v, %d writes, fuse %d, not off, 1, none", d.On(), d.Writes(), d.Left())
	}
}

func TestP1104ARecordMayBeSavedTwiceOrBeLess(t *testing.T) {
	d := disk.New()
	for i, r := range []api.Record{rec(5, 5, 5), rec(5, 5, 5), rec(1, 0, 0), rec(5, 5, 5)} {
		save(t, d, r, api.OK)
		load(t, d, told{r, i + 1, api.OK})
	}
}
