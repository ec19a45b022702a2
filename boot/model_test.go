package boot_test

import (
	"fmt"
	"testing"

	"earshot/api"
	"earshot/boot"
	"earshot/disk"
	"earshot/slot"
)

// model is a disk and the lives on it, told plainly: what was saved whole last, and the power. A save is two writes.
type model struct {
	on     bool
	fuse   int
	writes int
	stored api.Record
	seq    int
	is     bool
	now    state
	rounds int // the greatest round ever handed out
	tags   int // the greatest tag ever told
}

func (m *model) write() bool {
	if m.fuse == 0 {
		m.on, m.fuse = false, -1
		return false
	}
	if m.fuse > 0 {
		m.fuse--
	}
	m.writes++
	return true
}

func (m *model) save(r api.Record) api.Errno {
	switch {
	case !m.on:
		return api.ErrOff
	case m.seq == 1<<40:
		return api.ErrEnd
	case !m.write() || !m.write():
		return api.ErrOff
	}
	m.stored, m.seq = r, m.seq+1
	return api.OK
}

func (m *model) open() api.Errno {
	if !m.on {
		return api.ErrOff
	}
	old := m.stored
	if old.Life == 1<<30 {
		return api.ErrEnd
	}
	r := rec(old.Life+1, min(old.Round+16, 1<<40-1), min(old.Tag+4, 1<<20))
	if e := m.save(r); e != api.OK {
		return e
	}
	m.is = true
	m.now = state{old.Life + 1, old.Round, old.Tag, r}
	return api.OK
}

func (m *model) next() (int, api.Errno) {
	if !m.is || !m.on {
		return 0, api.ErrOff
	}
	if m.now.round == 1<<40-1 {
		return 0, api.ErrEnd
	}
	if m.now.round == m.now.durable.Round {
		r := m.now.durable
		r.Round = min(r.Round+16, 1<<40-1)
		if e := m.save(r); e != api.OK {
			return 0, e
		}
		m.now.durable = r
	}
	m.now.round++
	return m.now.round, api.OK
}

func (m *model) raise(tag int) api.Errno {
	switch {
	case !m.is || !m.on:
		return api.ErrOff
	case tag < 0:
		return api.ErrArg
	case tag > 1<<20:
		return api.ErrEnd
	case tag <= m.now.tag:
		return api.OK
	case tag > m.now.durable.Tag:
		r := m.now.durable
		r.Tag = min(tag+3, 1<<20)
		if e := m.save(r); e != api.OK {
			return e
		}
		m.now.durable = r
	}
	m.now.tag = tag
	return api.OK
}

// pair is a disk with its Boot, and the model of both.
type pair struct {
	d *disk.Disk
	b *boot.Boot
	m model
}

func pairOf(t testing.TB, r api.Record, seq int) pair {
	p := pair{d: disk.New(), b: &boot.Boot{}, m: model{on: true, fuse: -1}}
	if seq > 0 {
		p.d = having(t, r, seq)
		p.m.stored, p.m.seq = r, seq
		p.m.rounds, p.m.tags = r.Round, r.Tag
	}
	return p
}

// twin is a pair of its own that is alike. The Boot keeps its disk: so the copy is made by going the same way once more.
func twin(t testing.TB, r api.Record, seq int, steps []int) pair {
	p := pairOf(t, r, seq)
	for i := range steps {
		p.step(t, steps[:i+1])
	}
	return p
}

// kinds is how many kinds of steps there are.
const kinds = 13

// step takes the last one of these steps, and holds both against each other.
func (p *pair) step(t testing.TB, steps []int) {
	t.Helper()
	switch kind := steps[len(steps)-1]; kind {
	case 0:
		p.open(t, steps)
	case 1:
		p.next(t, steps)
	case 2:
		for range 16 {
			p.next(t, steps)
		}
	case 3, 4, 5:
		p.raise(t, steps, p.m.now.tag+[]int{1, 4, 7}[kind-3])
	case 6:
		p.raise(t, steps, p.m.now.durable.Tag)
	case 7, 8, 9:
		p.d.Fuse(kind - 7)
		p.m.fuse = kind - 7
	case 10:
		p.d.Cut()
		p.m.on = false
	case 12:
		p.raise(t, steps, p.m.now.tag/2)
	default:
		p.d.Restore()
		p.m.on = true
	}
	p.hold(t, steps)
}

func (p *pair) open(t testing.TB, steps []int) {
	t.Helper()
	want := p.m.open()
	b, got := boot.Open(p.d)
	if got != want || (b != nil) != (want == api.OK) {
		t.Fatalf("%v: Open: a Boot: %v, error %d, not %d", steps, b != nil, got, want)
	}
	if got == api.OK {
		p.b = b
		if b.Tag() < p.m.tags {
			t.Fatalf("%v: a life begins at the tag %d, below %d", steps, b.Tag(), p.m.tags)
		}
	}
}

func (p *pair) next(t testing.TB, steps []int) {
	t.Helper()
	want, e := p.m.next()
	round, got := p.b.Next()
	if round != want || got != e {
		t.Fatalf("%v: Next: %d, error %d, not %d, error %d", steps, round, got, want, e)
	}
	if got == api.OK && round <= p.m.rounds {
		t.Fatalf("%v: Next: %d, not above %d", steps, round, p.m.rounds)
	}
	p.m.rounds = max(p.m.rounds, round)
}

func (p *pair) raise(t testing.TB, steps []int, tag int) {
	t.Helper()
	want := p.m.raise(tag)
	if got := p.b.Raise(tag); got != want {
		t.Fatalf("%v: Raise(%d): error %d, not %d", steps, tag, got, want)
	}
}

func (p *pair) hold(t testing.TB, steps []int) {
	t.Helper()
	if got := stateOf(p.b); got != p.m.now {
		t.Fatalf("%v: %v, not %v", steps, got, p.m.now)
	}
	p.m.tags = max(p.m.tags, p.b.Tag())
	if p.d.On() != p.m.on || p.d.Left() != p.m.fuse || p.d.Writes() != p.m.writes {
		t.Fatalf("%v: power %v, fuse %d, %d writes, not %v, %d, %d", steps, p.d.On(), p.d.Left(), p.d.Writes(), p.m.on, p.m.fuse, p.m.writes)
	}
	// A twin with power tells what stands there, whatever the power does here.
	twin := p.d.Twin()
	twin.Restore()
	if r, seq, _ := slot.Load(twin); r != p.m.stored || seq != p.m.seq {
		t.Fatalf("%v: on the disk %v, seq %d, not %v, %d", steps, r, seq, p.m.stored, p.m.seq)
	}
}

// beginnings are disks from which runs begin: a new one, and some near each of the ends.
func beginnings() []struct {
	r   api.Record
	seq int
} {
	return []struct {
		r   api.Record
		seq int
	}{
		{api.Record{}, 0},
		{rec(3, 32, 9), 7},
		{rec(api.MaxLife-2, api.MaxRound-30, api.MaxTag-10), 4},
		{rec(api.MaxLife-1, api.MaxRound-1, api.MaxTag-1), 1},
		{rec(5, 64, 8), api.MaxNumber - 3},
	}
}

// walk goes through all runs of so many further steps.
func walk(t testing.TB, r api.Record, seq int, steps []int, depth int) {
	if depth == 0 {
		twin(t, r, seq, steps)
		return
	}
	for kind := range kinds {
		walk(t, r, seq, append(steps[:len(steps):len(steps)], kind), depth-1)
	}
}

func TestP1206AllShortRuns(t *testing.T) {
	for _, c := range beginnings() {
		walk(t, c.r, c.seq, nil, 2)
		// A Boot is open, and the power there: so the runs reach further.
		walk(t, c.r, c.seq, []int{0}, 4)
	}
}

func TestP1206LongRuns(t *testing.T) {
	for i, c := range beginnings() {
		for seed := range uint32(40) {
			p := pairOf(t, c.r, c.seq)
			x := seed*2654435761 + uint32(i) + 12345
			var steps []int
			for range 300 {
				x = x*1664525 + 1013904223
				kind := int(x>>16) % (kinds + 4)
				if kind >= kinds {
					// The power comes back more often than it goes, so that most steps do something.
					kind = 11
				}
				steps = append(steps, kind)
				p.step(t, steps)
			}
		}
	}
}

func FuzzRuns(f *testing.F) {
	for i := range beginnings() {
		f.Add(uint8(i), []byte{0, 2, 3, 4, 5, 7, 1, 11, 0})
		f.Add(uint8(i), []byte{8, 0, 11, 0, 2, 9, 1, 2, 6, 5, 11, 0, 1})
	}
	f.Fuzz(func(t *testing.T, from uint8, kindsOf []byte) {
		all := beginnings()
		c := all[int(from)%len(all)]
		p := pairOf(t, c.r, c.seq)
		var steps []int
		for _, k := range kindsOf[:min(len(kindsOf), 400)] {
			steps = append(steps, int(k)%kinds)
			p.step(t, steps)
		}
	})
}

// A run tells the same whatever other disks do meanwhile.
func TestP1206DisksAreApart(t *testing.T) {
	alone := twin(t, api.Record{}, 0, []int{0, 2, 5, 1})
	one, other := pairOf(t, api.Record{}, 0), pairOf(t, api.Record{}, 0)
	var steps []int
	for _, kind := range []int{0, 2, 5, 1} {
		steps = append(steps, kind)
		one.step(t, steps)
		other.step(t, []int{0})
		other.step(t, []int{4})
	}
	if got, want := fmt.Sprint(stateOf(one.b), one.d.Image()), fmt.Sprint(stateOf(alone.b), alone.d.Image()); got != want {
		t.Fatalf("%s, not %s", got, want)
	}
}
