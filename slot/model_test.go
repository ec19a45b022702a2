package slot_test

import (
	"encoding/hex"
	"fmt"
	"regexp"
	"strconv"
	"strings"
	"testing"

	"earshot/api"
	"earshot/disk"
	"earshot/slot"
)

// form writes a slot as a text of hexadecimal digits.
func form(r api.Record, seq int) string {
	return fmt.Sprintf("65617231%016x%08x%010x%022d65617232%016x%06x%034d", seq, r.Life, r.Round, 0, seq, r.Tag, 0)
}

var slotText = regexp.MustCompile("^65617231([0-9a-f]{16})([0-9a-f]{8})([0-9a-f]{10})0{22}65617232([0-9a-f]{16})([0-9a-f]{6})0{34}$")

// plainText reads what form writes, by its digits.
func plainText(text string) told {
	part := slotText.FindStringSubmatch(text)
	if part == nil || part[1] != part[4] {
		return told{e: api.ErrMagic}
	}
	value := func(i int, low, high uint64) int {
		v, _ := strconv.ParseUint(part[i], 16, 64)
		if v < low || v > high {
			return -1
		}
		return int(v)
	}
	x := told{rec(value(2, 1, 1<<30), value(3, 0, 1<<40-1), value(5, 0, 1<<20)), value(1, 1, 1<<40), api.OK}
	if x.seq < 0 || x.r.Life < 0 || x.r.Round < 0 || x.r.Tag < 0 {
		return told{e: api.ErrMagic}
	}
	return x
}

func plainDecode(b []byte) told { return plainText(hex.EncodeToString(b)) }

// model is a disk as digits: each sector a text, and behind how many writes the power fails (below 0: never).
type model struct {
	sectors [api.Sectors]string
	on      bool
	fuse    int
	writes  int
}

func modelOf(d *disk.Disk) model {
	m := model{on: d.On(), fuse: d.Left(), writes: d.Writes()}
	image := hex.EncodeToString(d.Image())
	for i := range m.sectors {
		m.sectors[i] = image[i*64 : i*64+64]
	}
	return m
}

func (m model) load() told {
	if !m.on {
		return told{e: api.ErrOff}
	}
	one, other := plainText(m.sectors[0]+m.sectors[1]), plainText(m.sectors[2]+m.sectors[3])
	switch {
	case one.e == api.OK && (other.e != api.OK || one.seq >= other.seq):
		return one
	case other.e == api.OK:
		return other
	}
	return told{e: api.ErrNone}
}

// save tells the model behind a Save, and what Save answers.
func (m model) save(r api.Record) (model, api.Errno) {
	if plainText(form(r, 1)) != (told{r, 1, api.OK}) {
		return m, api.ErrArg
	}
	old := m.load()
	if old.e == api.ErrOff {
		return m, api.ErrOff
	}
	if old.seq == 1<<40 {
		return m, api.ErrEnd
	}
	first := 0
	if old.e == api.OK && old == plainText(m.sectors[0]+m.sectors[1]) {
		first = 2
	}
	text := form(r, old.seq+1)
	for i, half := range []string{text[:64], text[64:]} {
		if m.fuse == 0 {
			m.on, m.fuse = false, -1
			return m, api.ErrOff
		}
		m.fuse = max(m.fuse-1, -1)
		m.sectors[first+i] = half
		m.writes++
	}
	return m, api.OK
}

// take saves, and holds the disk and what it tells against the model.
func take(t testing.TB, path string, d *disk.Disk, r api.Record) api.Errno {
	t.Helper()
	m, want := modelOf(d).save(r)
	got := slot.Save(d, r)
	if got != want {
		t.Fatalf("%s: Save(%v): error %d, not %d", path, r, got, want)
	}
	if now := modelOf(d); now != m {
		t.Fatalf("%s: behind Save(%v): %v, not %v", path, r, now, m)
	}
	if now := loaded(d); now != m.load() || modelOf(d) != m {
		t.Fatalf("%s: Load behind Save(%v): %v, not %v", path, r, now, m.load())
	}
	return got
}

// pieces are slots of all kinds: whole ones, torn ones, spoilt ones.
func pieces() []string {
	a, b := rec(1, 16, 4), rec(2, 32, 8)
	torn := func(first, second string) string { return first[:64] + second[64:] }
	return []string{
		strings.Repeat("0", 128), strings.Repeat("f", 128),
		form(a, 1), form(b, 1), form(b, 2), form(a, 3), form(b, 255), form(a, 256), form(a, 1<<40-1), form(b, 1<<40),
		torn(form(a, 1), strings.Repeat("0", 128)), torn(form(b, 3), form(a, 1)), torn(form(a, 2), form(b, 2)), torn(form(a, 1<<40), form(a, 1<<40-2)),
		form(a, 0), form(a, 1<<40+1), form(rec(0, 16, 4), 7), form(rec(1<<30+1, 16, 4), 7), form(rec(1, 16, 1<<20+1), 7),
		form(a, 4)[64:] + form(a, 4)[:64],
	}
}

func TestP1104AllPairsOfSlots(t *testing.T) {
	all := pieces()
	for i, first := range all {
		for j, second := range all {
			b, e := hex.DecodeString(first + second)
			if e != nil || len(b) != 2*slotSize {
				t.Fatalf("the pieces %d, %d: %v", i, j, e)
			}
			for fuse := -1; fuse <= 3; fuse++ {
				for _, on := range []bool{true, false} {
					d := of(t, b[:slotSize], b[slotSize:])
					d.Fuse(fuse)
					if !on {
						d.Cut()
					}
					path := fmt.Sprintf("pieces %d, %d, fuse %d, on %v", i, j, fuse, on)
					if got, want := loaded(d), modelOf(d).load(); got != want {
						t.Fatalf("%s: Load: %v, not %v", path, got, want)
					}
					take(t, path, d, rec(0, 1, 1))
					take(t, path, d, api.Record{})
					take(t, path, d, rec(3, 48, 12))
					d.Restore()
					take(t, path, d, rec(4, 64, 16))
					take(t, path, d, rec(5, 80, 16))
				}
			}
		}
	}
}

// hold saves a record with a fuse, brings the power back, and looks whether what is told then is the one ahead of it or the new one.
func hold(t testing.TB, path string, d *disk.Disk, r api.Record, fuse int) {
	t.Helper()
	ahead := loaded(d)
	d.Fuse(fuse)
	e := take(t, path, d, r)
	d.Restore()
	d.Fuse(-1)
	behind := loaded(d)
	done := told{r, ahead.seq + 1, api.OK}
	switch {
	case e == api.OK && behind != done:
		t.Fatalf("%s: behind a Save that was done: %v, not %v", path, behind, done)
	case e != api.OK && behind != ahead && behind != done:
		t.Fatalf("%s: behind a Save that was cut off: %v, neither %v nor %v", path, behind, ahead, done)
	}
}

// walk goes through all runs of so many saves, the power failing at each of their writes or not at all.
func walk(t testing.TB, path string, d *disk.Disk, depth int) {
	if depth == 0 {
		return
	}
	for fuse := -1; fuse <= 2; fuse++ {
		twin := d.Twin()
		on := fmt.Sprintf("%s %d", path, fuse)
		hold(t, on, twin, rec(depth, 16*depth, fuse+1), fuse)
		walk(t, on, twin, depth-1)
	}
}

func TestP1105AllShortRuns(t *testing.T) {
	walk(t, "fuses", disk.New(), 6)
}

func TestP1105LongRuns(t *testing.T) {
	for seed := range uint32(30) {
		d := disk.New()
		x := seed*2654435761 + 12345
		for i := range 200 {
			x = x*1664525 + 1013904223
			r := rec(1+int(x>>7)%5, int(x>>3)%7*(1<<35), int(x>>5)%3*(1<<19))
			hold(t, fmt.Sprintf("seed %d, save %d", seed, i), d, r, int(x>>16)%5-1)
		}
	}
}

func FuzzDecode(f *testing.F) {
	for _, text := range pieces() {
		b, _ := hex.DecodeString(text)
		f.Add(b)
	}
	f.Add([]byte("ear1"))
	f.Fuzz(func(t *testing.T, b []byte) {
		got := decoded(b)
		if len(b) != slotSize {
			if got != (told{e: api.ErrSize}) {
				t.Fatalf("Decode(%d bytes): %v, not ErrSize", len(b), got)
			}
			return
		}
		if want := plainDecode(b); got != want {
			t.Fatalf("Decode(%x): %v, not %v", b, got, want)
		}
		if got.e == api.OK && string(encode(t, got.r, got.seq)) != string(b) {
			t.Fatalf("Encode(%v, %d) is not %x", got.r, got.seq, b)
		}
	})
}
