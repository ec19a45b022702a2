package bag_test

import (
	"strconv"
	"testing"

	"earshot/api"
	"earshot/bag"
)

// model is a bag told plainly: each step makes its whole list anew, with bytes of its own.
type model struct {
	room, made int
	grams      []api.Gram
}

func (m model) at(i int) (g api.Gram, is bool) {
	for k, x := range m.grams {
		if k == i {
			return gram(x.Id, x.From, x.To, string(x.Data)), true
		}
	}
	return api.Gram{}, false
}

// without tells the datagrams but that at a place.
func (m model) without(i int) (list []api.Gram) {
	for k := range m.grams {
		if g, _ := m.at(k); k != i {
			list = append(list, g)
		}
	}
	return list
}

func (m model) send(from, to int, data string) (model, int, api.Errno) {
	switch {
	case len(data) > 1024:
		return m, 0, api.ErrLong
	case len(m.grams) >= m.room:
		return m, 0, api.ErrFull
	}
	id := m.made + 1
	return model{m.room, id, append(m.without(-1), gram(id, from, to, data))}, id, api.OK
}

func (m model) take(i int) (model, int, api.Errno) {
	g, is := m.at(i)
	if !is {
		return m, 0, api.ErrGram
	}
	return model{m.room, m.made, m.without(i)}, g.Id, api.OK
}

func (m model) double(i int) (model, int, api.Errno) {
	g, is := m.at(i)
	if !is {
		return m, 0, api.ErrGram
	}
	return m.send(g.From, g.To, string(g.Data))
}

func (m model) move(i, to int) (model, int, api.Errno) {
	g, is := m.at(i)
	if _, there := m.at(to); !is || !there {
		return m, 0, api.ErrGram
	}
	var list []api.Gram
	rest := m.without(i)
	for len(list) < len(m.grams) {
		if len(list) == to {
			list = append(list, g)
			continue
		}
		list, rest = append(list, rest[0]), rest[1:]
	}
	return model{m.room, m.made, list}, 0, api.OK
}

func (m model) spoil(i, at, by int) (model, int, api.Errno) {
	g, is := m.at(i)
	switch {
	case !is:
		return m, 0, api.ErrGram
	case by < 1 || by > 255 || len(g.Data) == 0:
		return m, 0, api.ErrArg
	}
	for at < 0 {
		at += len(g.Data)
	}
	for at >= len(g.Data) {
		at -= len(g.Data)
	}
	g.Data[at] ^= byte(by)
	list := m.without(-1)
	list[i] = g
	return model{m.room, m.made, list}, 0, api.OK
}

// step is a step of a bag, and the model's.
type step struct {
	kind    byte
	a, b, c int
}

func (s step) String() string {
	return string(rune(s.kind)) + " " + strconv.Itoa(s.a) + " " + strconv.Itoa(s.b) + " " + strconv.Itoa(s.c)
}

// data is what the steps send: some bytes, of a length.
func data(n int) string {
	var text []byte
	for i := range n {
		text = append(text, byte(i*37+n))
	}
	return string(text)
}

// do takes a step of a bag; of a datagram that is taken its id is told.
func (s step) do(b *bag.Bag) (int, api.Errno) {
	switch s.kind {
	case 's':
		return b.Send(s.a, s.b, []byte(data(s.c)))
	case 't':
		g, e := b.Take(s.a)
		return g.Id, e
	case 'd':
		return b.Double(s.a)
	case 'm':
		return 0, b.Move(s.a, s.b)
	}
	return 0, b.Spoil(s.a, s.b, s.c)
}

// of takes the same step of a model.
func (s step) of(m model) (model, int, api.Errno) {
	switch s.kind {
	case 's':
		return m.send(s.a, s.b, data(s.c))
	case 't':
		return m.take(s.a)
	case 'd':
		return m.double(s.a)
	case 'm':
		return m.move(s.a, s.b)
	}
	return m.spoil(s.a, s.b, s.c)
}

// run takes steps of both, and holds their answers, and what they have then, against each other.
func run(t testing.TB, room int, steps ...step) {
	t.Helper()
	b, m := must(t, room), model{room: room}
	for i, s := range steps {
		var want int
		var e api.Errno
		m, want, e = s.of(m)
		if got, g := s.do(b); got != want || g != e {
			t.Fatalf("%v: the step %d answers %d, error %d, not %d, error %d", steps, i, got, g, want, e)
		}
	}
	has(t, "behind the steps", b, room, m.grams...)
	if t.Failed() {
		t.Fatalf("the steps: %v", steps)
	}
}

// few are steps of all kinds, for a bag with few datagrams.
func few() []step {
	steps := []step{{'s', 1, 2, 0}, {'s', -3, 4, 3}, {'s', 0, 0, 1025}}
	for i := -1; i <= 3; i++ {
		steps = append(steps, step{'t', i, 0, 0}, step{'d', i, 0, 0}, step{'s', i, 9, 1})
		steps = append(steps, step{'x', i, -1, 255}, step{'x', i, 4, 256})
		for to := -1; to <= 3; to++ {
			steps = append(steps, step{'m', i, to, 0})
		}
	}
	return steps
}

func TestAllShortRuns(t *testing.T) {
	steps := few()
	for _, room := range []int{0, 1, 3} {
		for _, x := range steps {
			for _, y := range steps {
				run(t, room, x, y)
			}
		}
	}
	// Three steps, from a bag on that has two datagrams.
	begin := []step{{'s', 5, 6, 2}, {'s', 7, 8, 0}}
	for _, room := range []int{3, 4} {
		for _, x := range steps {
			for _, y := range steps {
				for _, z := range steps {
					run(t, room, append(begin[:2:2], x, y, z)...)
				}
			}
		}
	}
}

// anyStep is a step that hangs on a number alone.
func anyStep(v uint64, room int) step {
	place := func() int {
		v /= 7
		return int(v%uint64(room+3)) - 1
	}
	switch v % 11 {
	case 0, 1, 2:
		return step{'s', place(), place(), place() % 9 & 7}
	case 3:
		return step{'t', place(), 0, 0}
	case 4:
		return step{'t', 0, 0, 0}
	case 5, 6:
		return step{'d', place(), 0, 0}
	case 7, 8:
		return step{'m', place(), place(), 0}
	}
	return step{'x', place(), place() - 20, place()}
}

func TestLongRuns(t *testing.T) {
	v := uint64(1)
	for _, room := range []int{1, 2, 5, 17, 40} {
		for range 60 {
			var steps []step
			for range 150 {
				v = v*6364136223846793005 + 1442695040888963407
				steps = append(steps, anyStep(v>>11, room))
			}
			run(t, room, steps...)
		}
	}
}

func FuzzSteps(f *testing.F) {
	f.Add([]byte{0, 0, 0, 1, 9, 200, 7, 31}, 3)
	f.Add([]byte("ssdmtx"), 2)
	f.Fuzz(func(t *testing.T, raw []byte, room int) {
		if room < 0 || room > 40 {
			return
		}
		var steps []step
		for i := 0; i+2 < len(raw); i += 3 {
			steps = append(steps, anyStep(uint64(raw[i])<<16|uint64(raw[i+1])<<8|uint64(raw[i+2]), room))
		}
		run(t, room, steps...)
	})
}
