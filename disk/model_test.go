package disk_test

import (
	"fmt"
	"strings"
	"testing"

	"earshot/api"
	"earshot/disk"
)

// step is one call that may change a disk.
type step struct {
	name string
	do   func(d *disk.Disk) api.Errno
	told func(m model) (model, api.Errno)
}

// model is a plain disk: each sector a text, the fuse a row of matches behind a mark that tells whether there is one. A step makes another model.
type model struct {
	sectors [api.Sectors]string
	dark    bool
	fuse    string // "" or a "|" with a "m" for each write
	writes  int
}

func newModel() model {
	var m model
	for i := range m.sectors {
		m.sectors[i] = strings.Repeat("\x00", api.SectorSize)
	}
	return m
}

func (m model) write(sector int, data string) (model, api.Errno) {
	if m.dark {
		return m, api.ErrOff
	}
	if sector < 0 || sector > 7 {
		return m, api.ErrSector
	}
	if len(data) != 32 {
		return m, api.ErrSize
	}
	if m.fuse == "|" {
		m.fuse, m.dark = "", true
		return m, api.ErrOff
	}
	if m.fuse != "" {
		m.fuse = m.fuse[:len(m.fuse)-1]
	}
	m.sectors[sector] = data
	m.writes++
	return m, api.OK
}

func (m model) fused(k int) model {
	m.fuse = ""
	if k >= 0 {
		m.fuse = "|" + strings.Repeat("m", k)
	}
	return m
}

func (m model) state() state { return state{!m.dark, len(m.fuse) - 1, m.writes} }

func (m model) image() []byte { return []byte(strings.Join(m.sectors[:], "")) }

func writing(sector int, c byte, size int) step {
	return step{
		fmt.Sprintf("Write(%d, %d of %q)", sector, size, c),
		func(d *disk.Disk) api.Errno { return d.Write(sector, row(c, size)) },
		func(m model) (model, api.Errno) { return m.write(sector, string(row(c, size))) },
	}
}

func fusing(k int) step {
	return step{
		fmt.Sprintf("Fuse(%d)", k),
		func(d *disk.Disk) api.Errno { d.Fuse(k); return api.OK },
		func(m model) (model, api.Errno) { return m.fused(k), api.OK },
	}
}

func power(on bool) step {
	return step{
		fmt.Sprintf("power %v", on),
		func(d *disk.Disk) api.Errno {
			if on {
				d.Restore()
			} else {
				d.Cut()
			}
			return api.OK
		},
		func(m model) (model, api.Errno) { m.dark = !on; return m, api.OK },
	}
}

func steps() []step {
	return []step{
		writing(0, 'a', 32), writing(0, 'b', 32), writing(7, 'c', 32), writing(3, 'd', 32),
		writing(-1, 'e', 32), writing(8, 'f', 31), writing(2, 'g', 33),
		fusing(-2), fusing(0), fusing(1), fusing(2), power(false), power(true),
	}
}

// take does a step with a disk and its model, and holds them against each other.
func take(t testing.TB, s step, d *disk.Disk, m model, path string) model {
	t.Helper()
	next, want := s.told(m)
	if got := s.do(d); got != want {
		t.Fatalf("%s: error %d, not %d", path, got, want)
	}
	is(t, path, d, next.state(), next.image())
	return next
}

// walk goes through all runs of so many steps; each goes on with a twin, so that the one that it began with must stay as it is.
func walk(t testing.TB, d *disk.Disk, m model, path string, depth int) {
	if depth == 0 {
		return
	}
	for _, s := range steps() {
		on := path + "; " + s.name
		twin := d.Twin()
		next := take(t, s, twin, m, on)
		walk(t, twin, next, on, depth-1)
	}
	is(t, path+" behind its twins", d, m.state(), m.image())
}

func TestP1003AllShortRuns(t *testing.T) {
	walk(t, disk.New(), newModel(), "New", 4)
}

func TestP1003LongRuns(t *testing.T) {
	for seed := range uint32(40) {
		d, m := disk.New(), newModel()
		x := seed*2654435761 + 12345
		for i := range 300 {
			x = x*1664525 + 1013904223
			all := append(steps(), writing(int((x>>8)%11)-1, byte(x>>3), 32), fusing(int((x>>5)%20)-2))
			s := all[int(x>>16)%len(all)]
			m = take(t, s, d, m, fmt.Sprintf("seed %d, step %d: %s", seed, i, s.name))
		}
	}
}

// FuzzRuns takes a run's steps from bytes.
func FuzzRuns(f *testing.F) {
	f.Add([]byte{9, 0, 2, 12, 3})
	f.Add([]byte{8, 4, 5, 6, 0, 12, 1})
	f.Add([]byte{11, 10, 0, 12, 0, 2, 3})
	f.Fuzz(func(t *testing.T, run []byte) {
		all := steps()
		d, m := disk.New(), newModel()
		for i, b := range run {
			s := all[int(b)%len(all)]
			m = take(t, s, d, m, fmt.Sprintf("step %d: %s", i, s.name))
		}
	})
}
