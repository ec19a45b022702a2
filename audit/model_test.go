package audit_test

import (
	"math"
	"slices"
	"testing"

	"earshot/api"
	"earshot/audit"
	"earshot/cluster"
	"earshot/wire"
)

// plainCheck tells what Check tells, by the document's words alone: nothing is carried from event to event, each is held against all that stand ahead of it.
func plainCheck(n, f int, l []api.Event) (int, api.Errno) {
	if n < 1 || n > 100 || f < 0 || f > n-1 {
		return 0, api.ErrArg
	}
	for i, x := range l {
		if !plainFits(n, x) || !plainFollows(l[:i], x) || !plainLaw(n, f, l[:i], x) {
			return i, api.ErrLaw
		}
	}
	if inRow(l) {
		return len(l), api.ErrLaw
	}
	return 0, api.OK
}

func inRow(ahead []api.Event) bool {
	return len(ahead) > 0 && (ahead[len(ahead)-1].Kind == 3 || ahead[len(ahead)-1].Kind == 4)
}

// plainFits tells whether an event's own fields can be.
func plainFits(n int, x api.Event) bool {
	if x.Kind < 1 || x.Kind > 6 || x.Node < 0 || x.Node > n-1 || x.Life < 1 || x.Life > 1<<30 {
		return false
	}
	zero := map[string]bool{"round": x.Round == 0, "tag": x.Tag == 0, "of": x.Of == 0, "durable": x.Durable == 0, "heard": x.Heard == api.Set{}, "union": x.Union == api.Set{}}
	named := [][]string{1: {"round", "tag"}, 2: {"round"}, 3: {"round", "heard", "union"}, 4: {"of", "tag", "round"}, 5: {"tag", "durable"}, 6: {}}
	for field, is := range zero {
		if !is && !slices.Contains(named[x.Kind], field) {
			return false
		}
	}
	return true
}

func plainFollows(ahead []api.Event, x api.Event) bool {
	if inRow(ahead) {
		return (x.Kind == 4 || x.Kind == 2) && x.Node == ahead[len(ahead)-1].Node
	}
	return x.Kind != 4
}

// told is what the events ahead say of a node.
type told struct {
	up          bool
	lives, asks []int
	open, tag   int
}

func toldOf(ahead []api.Event, id int) told {
	var s told
	for i, x := range ahead {
		if x.Node != id {
			continue
		}
		switch x.Kind {
		case 1:
			s.up, s.lives, s.open, s.tag = true, append(s.lives, x.Life), x.Round, x.Tag
		case 2:
			if inRow(ahead[:i]) {
				s.open = x.Round
			}
			s.asks = append(s.asks, x.Round)
		case 5:
			s.tag = x.Tag
		case 6:
			s.up = false
		}
	}
	return s
}

// rowClose is the EventClose that the row under way began with.
func rowClose(ahead []api.Event) api.Event {
	for i := len(ahead) - 1; ; i-- {
		if ahead[i].Kind == 3 {
			return ahead[i]
		}
	}
}

func setHas(s api.Set, id int) bool { return s[id/32]>>(id%32)&1 == 1 }

// plainLaw tells whether what the table says of an event holds. Its own fields can be, and it may stand there.
func plainLaw(n, f int, ahead []api.Event, x api.Event) bool {
	s := toldOf(ahead, x.Node)
	if x.Kind == 1 {
		above := func(v int) func(int) bool { return func(o int) bool { return o >= v } }
		return !s.up && !slices.ContainsFunc(s.lives, above(x.Life)) && x.Round >= 1 && x.Round < 1<<40 &&
			!slices.ContainsFunc(s.asks, above(x.Round)) && x.Tag >= 0 && x.Tag <= 1<<20 && x.Tag >= s.tag
	}
	if !s.up || s.lives[len(s.lives)-1] != x.Life {
		return false
	}
	switch x.Kind {
	case 2:
		if inRow(ahead) {
			return x.Round > rowClose(ahead).Round && x.Round < 1<<40
		}
		return x.Round == s.open
	case 3:
		return x.Round == s.open && plainQuorum(n, f, x)
	case 4:
		c, last := rowClose(ahead), ahead[len(ahead)-1]
		return x.Of >= 0 && x.Of < n && !setHas(c.Union, x.Of) && (last.Kind == 3 || x.Of > last.Of) &&
			x.Tag >= 0 && x.Tag <= 1<<20 && x.Round == c.Round
	case 5:
		return x.Tag > s.tag && x.Durable >= x.Tag && x.Durable <= 1<<20
	}
	return true
}

// plainQuorum tells whether the sets of an EventClose can be.
func plainQuorum(n, f int, x api.Event) bool {
	many := 0
	for id := range 128 {
		heard, union := setHas(x.Heard, id), setHas(x.Union, id)
		if id >= n && (heard || union) || heard && !union {
			return false
		}
		if heard {
			many++
		}
	}
	return many == n-f && setHas(x.Heard, x.Node)
}

// plainLives tells what Lives tells, by counting for each node on its own.
func plainLives(n int, l []api.Event) []int {
	var lives []int
	for id := range n {
		many := 0
		for _, x := range l {
			if x.Kind == 1 && x.Node == id {
				many++
			}
		}
		lives = append(lives, many)
	}
	return lives
}

// plainDoubts tells what Doubts tells, by looking for each node on its own.
func plainDoubts(n int, l []api.Event) []api.Notice {
	var all []api.Notice
	for id := range n {
		tag := -1
		for _, x := range l {
			if x.Kind == 4 && x.Of == id && x.Node >= 0 && x.Node < n && x.Tag <= 1<<20 {
				tag = max(tag, x.Tag)
			}
		}
		if tag >= 0 {
			all = append(all, suspicion(id, tag))
		}
	}
	return all
}

// alike holds all calls against the model; it tells what Check has answered.
func alike(t testing.TB, n, f int, l []api.Event) api.Errno {
	t.Helper()
	was := slices.Clone(l)
	at, e := audit.Check(n, f, l)
	if wantAt, want := plainCheck(n, f, l); at != wantAt || e != want {
		t.Fatalf("Check(%d, %d, %v): %d, error %d, not %d, error %d", n, f, l, at, e, wantAt, want)
	}
	lives, e1 := audit.Lives(n, l)
	greatest, e2 := audit.Doubts(n, l)
	if n < 1 || n > 100 {
		if e1 != api.ErrArg || e2 != api.ErrArg || len(lives) != 0 || len(greatest) != 0 {
			t.Fatalf("%d nodes: Lives %v, error %d, Doubts %v, error %d", n, lives, e1, greatest, e2)
		}
	} else if e1 != api.OK || e2 != api.OK || !slices.Equal(lives, plainLives(n, l)) || !slices.Equal(greatest, plainDoubts(n, l)) {
		t.Fatalf("%d nodes, %v: Lives %v, error %d, Doubts %v, error %d", n, l, lives, e1, greatest, e2)
	}
	if !slices.Equal(l, was) {
		t.Fatalf("%v has become %v", was, l)
	}
	return e
}

// few are events of two nodes, each of which has its place in some short history.
func few() []api.Event {
	return []api.Event{
		begins(0, 1, 1, 0), begins(0, 2, 2, 1), begins(1, 1, 1, 0),
		asks(0, 1, 1), asks(0, 1, 2), asks(0, 2, 2), asks(1, 1, 1),
		closes(0, 1, 1, of(0), of(0)), closes(0, 1, 1, of(0), of(0, 1)), closes(0, 1, 2, of(0), of(0)), closes(1, 1, 1, of(1), of(1)),
		doubts(0, 1, 1, 1, 0), doubts(0, 1, 1, 0, 0), doubts(1, 1, 1, 0, 0),
		defends(0, 1, 1, 1), defends(0, 1, 2, 4), falls(0, 1), falls(0, 2), falls(1, 1),
	}
}

// TestShortHistories goes through all histories of a few events, up to what offends in them.
func TestShortHistories(t *testing.T) {
	all := few()
	count := map[api.Errno]int{}
	var run func(l []api.Event)
	run = func(l []api.Event) {
		count[alike(t, 2, 1, l)]++
		// Behind an event that offends nothing counts any more; behind an unfinished row it does.
		if at, e := audit.Check(2, 1, l); len(l) == 6 || e != api.OK && at < len(l) {
			return
		}
		for _, x := range all {
			run(append(slices.Clone(l), x))
		}
	}
	run(nil)
	if count[api.OK] < 500 || count[api.ErrLaw] < 5000 {
		t.Errorf("too few of a kind: %v", count)
	}
}

// dice tells numbers below m that look as if by chance, and are the same each time.
type dice uint64

func (d *dice) below(m int) int {
	*d = *d*6364136223846793005 + 1442695040888963407
	return int(uint64(*d)>>33) % m
}

// some tells a set of so many of n nodes, with one that must be in it.
func (d *dice) some(n, many, with int) api.Set {
	s := of(with)
	for have := 1; have < many; {
		if id := d.below(n); !setHas(s, id) {
			s[id/32] |= 1 << (id % 32)
			have++
		}
	}
	return s
}

// history tells a lawful history of n nodes, some of whose numbers lie at their ends.
func (d *dice) history(n, f, steps int) []api.Event {
	var l []api.Event
	for range steps {
		id := d.below(n)
		s := toldOf(l, id)
		life := 0
		if len(s.lives) > 0 {
			life = s.lives[len(s.lives)-1]
		}
		if !s.up {
			if x := begins(id, life+1+d.below(2), d.above(append(s.asks, 0)), s.tag+d.below(3)); x.Round < 1<<40 && x.Tag <= 1<<20 {
				l = append(l, x)
			}
			continue
		}
		switch d.below(6) {
		case 0:
			l = append(l, asks(id, life, s.open))
		case 1:
			l = append(l, falls(id, life))
		case 2:
			if tag := s.tag + 1 + d.below(4)*d.below(1<<18); tag <= 1<<20 {
				l = append(l, defends(id, life, tag, tag+d.below(1<<20-tag+1)))
			}
		default:
			if next := d.above([]int{s.open}); next < 1<<40 {
				l = append(l, d.row(n, f, id, life, s.open, next)...)
			}
		}
	}
	return l
}

// above tells a round above some others, now and then the last one.
func (d *dice) above(rounds []int) int {
	if d.below(60) == 0 && slices.Max(rounds) < 1<<40-1 {
		return 1<<40 - 1
	}
	return slices.Max(rounds) + 1 + d.below(2)
}

// row tells an EventClose, doubts and an EventAsk.
func (d *dice) row(n, f, id, life, round, next int) []api.Event {
	heard := d.some(n, n-f, id)
	union := heard
	for o, s := range d.some(n, 1+d.below(n), d.below(n)) {
		union[o] |= s
	}
	l := []api.Event{closes(id, life, round, heard, union)}
	for o := range n {
		if !setHas(union, o) && d.below(3) > 0 {
			l = append(l, doubts(id, life, round, o, d.below(3)*d.below(1<<19)))
		}
	}
	return append(l, asks(id, life, next))
}

// number tells a number near another one, or one at which something ends.
func (d *dice) number(v, n int) int {
	ends := []int{0, 1, 2, n - 1, n, n + 1, 6, 7, 99, 100, 1 << 20, 1<<20 + 1, 1 << 30, 1<<30 + 1, 1<<40 - 1, 1 << 40, math.MaxInt, math.MinInt, -1, -2}
	if d.below(2) == 0 {
		return v + d.below(5) - 2
	}
	return ends[d.below(len(ends))]
}

// spoil turns one thing of a history, in new memory.
func (d *dice) spoil(n int, l []api.Event) []api.Event {
	l = slices.Clone(l)
	if len(l) == 0 {
		return l
	}
	i := d.below(len(l))
	switch d.below(12) {
	case 0:
		return slices.Delete(l, i, i+1)
	case 1:
		return slices.Insert(l, i, l[d.below(len(l))])
	case 2:
		j := d.below(len(l))
		l[i], l[j] = l[j], l[i]
		return l
	case 3:
		return l[:i]
	case 4:
		l[i].Heard[d.below(4)] ^= 1 << d.below(32)
		return l
	case 5:
		l[i].Union[d.below(4)] ^= 1 << d.below(32)
		return l
	case 6:
		id := d.below(n)
		l[i].Heard[id/32] ^= 1 << (id % 32)
		if d.below(2) == 0 {
			l[i].Union[id/32] |= 1 << (id % 32)
		}
		return l
	}
	x := &l[i]
	field := []*int{&x.Kind, &x.Node, &x.Life, &x.Round, &x.Tag, &x.Of, &x.Durable}[d.below(7)]
	*field = d.number(*field, n)
	return l
}

// TestModel: histories that are lawful, and such of which something is turned, against the model.
func TestModel(t *testing.T) {
	count := map[api.Errno]int{}
	for seed := range 1200 {
		d := dice(seed)
		n := 1 + d.below(5)
		if seed%40 == 0 {
			n = 1 + d.below(100)
		}
		f := d.below(n)
		l := d.history(n, f, 25)
		if e := alike(t, n, f, l); e != api.OK {
			t.Fatalf("%v should be lawful: error %d", l, e)
		}
		for range 12 {
			x := d.spoil(n, l)
			if d.below(3) == 0 {
				x = d.spoil(n, x)
			}
			count[alike(t, n, f, x)]++
		}
		count[alike(t, d.number(n, n), d.number(f, n), l)]++
	}
	if count[api.OK] < 400 || count[api.ErrLaw] < 4000 || count[api.ErrArg] < 200 {
		t.Errorf("too few of a kind: %v", count)
	}
}

// note tells the bytes of a note that is forged, most of it near a round.
func (d *dice) note(t testing.TB, n, round int) []byte {
	t.Helper()
	var news []api.Notice
	for id := range n {
		if d.below(3) == 0 {
			tag := d.below(12)
			if d.below(40) == 0 {
				tag = api.MaxTag - d.below(6)
			}
			news = append(news, api.Notice{Of: id, Tag: tag, Kind: api.Mistake + d.below(2)})
		}
	}
	from, round := d.below(n), max(1, round+d.below(3)-1)
	var x wire.Note = wire.Query{From: from, Round: round, News: news}
	switch d.below(3) {
	case 0:
		x = wire.Reply{From: from, Round: round, Heard: d.some(n, 1+d.below(n), from), News: news}
	case 1:
		x = wire.Rumor{From: from, News: news}
	}
	data, e := x.Bytes(n)
	if e != api.OK {
		t.Fatalf("Bytes(%d) of %v: error %d", n, x, e)
	}
	return data
}

// step tells a step of any kind.
func (d *dice) step(t testing.TB, c *cluster.Cluster) api.Step {
	n := c.Size()
	id, place := d.below(n), d.below(40)-20
	k := d.below(100)
	switch {
	case k < 26:
		return api.Step{Kind: api.StepPoll, A: id}
	case k < 58:
		return api.Step{Kind: api.StepDeliver, A: place}
	case k < 66:
		return api.Step{Kind: api.StepDrop + d.below(3), A: place, B: d.below(40) - 20}
	case k < 69:
		return api.Step{Kind: api.StepSpoil, A: place, B: d.below(100), C: d.below(256)}
	case k < 75:
		s, _ := c.Sight(d.below(n))
		return api.Step{Kind: api.StepForge, A: id, Data: d.note(t, n, s.Round)}
	case k < 79:
		return api.Step{Kind: api.StepCrash, A: id}
	case k < 84:
		return api.Step{Kind: api.StepFuse, A: id, B: d.below(9)}
	case k < 92:
		return api.Step{Kind: api.StepRestart, A: id}
	case k < 94:
		return api.Step{Kind: api.StepFlush, A: place}
	case k == 99:
		return api.Step{Kind: d.number(0, n), A: d.number(0, n)}
	}
	return api.Step{Kind: api.StepTurn, A: place}
}

// TestP1903Clusters: the history of a cluster keeps the laws behind each step, whatever the steps; a piece of it does, unless a row is cut through.
func TestP1903Clusters(t *testing.T) {
	kinds := map[int]int{}
	for seed := range 120 {
		d := dice(seed)
		n, steps := 1+d.below(6), 160
		if seed%30 == 29 {
			n, steps = []int{33, 64, 97, api.MaxNodes}[seed/30], 30
		}
		c, e := cluster.New(n, d.below(n))
		if e != api.OK {
			t.Fatalf("New(%d, ..): error %d", n, e)
		}
		for range steps {
			c.Do(d.step(t, c))
			if at, e := audit.Check(c.Size(), c.Faults(), c.History()); at != 0 || e != api.OK {
				t.Fatalf("%d nodes, %d may fail, %v: %d, error %d", c.Size(), c.Faults(), c.History(), at, e)
			}
		}
		l := c.History()
		for k := 0; k <= len(l); k += 1 + k/200 {
			at, e := audit.Check(c.Size(), c.Faults(), l[:k])
			if inRow(l[:k]) && (at != k || e != api.ErrLaw) || !inRow(l[:k]) && (at != 0 || e != api.OK) {
				t.Fatalf("%v: %d, error %d", l[:k], at, e)
			}
		}
		for _, x := range l {
			kinds[x.Kind]++
		}
		lived(t, c)
	}
	for kind := api.EventBegin; kind <= api.EventDown; kind++ {
		if kinds[kind] < 100 {
			t.Errorf("too few events of a kind: %v", kinds)
		}
	}
}

// lived holds what Lives and Doubts tell of a cluster's history against the model, and against the lives that are seen.
func lived(t testing.TB, c *cluster.Cluster) {
	t.Helper()
	l := c.History()
	lives, e := audit.Lives(c.Size(), l)
	if e != api.OK || !slices.Equal(lives, plainLives(c.Size(), l)) {
		t.Fatalf("Lives: %v, error %d", lives, e)
	}
	for id, many := range lives {
		// A life that was cut off within its start has a number, but no event.
		if s, _ := c.Sight(id); many < 1 || s.Up && s.Life < many {
			t.Fatalf("%d has had %d lives, and is in the life %d", id, many, s.Life)
		}
	}
	greatest, e := audit.Doubts(c.Size(), l)
	if e != api.OK || !slices.Equal(greatest, plainDoubts(c.Size(), l)) {
		t.Fatalf("Doubts: %v, error %d", greatest, e)
	}
}

// FuzzHistories takes bytes as events.
func FuzzHistories(f *testing.F) {
	f.Add([]byte{3, 1, 1, 0, 1, 1, 0, 0, 0, 0, 3, 0, 1, 1, 0, 0, 0, 3, 3, 4, 0, 1, 1, 0, 2, 0, 0, 0, 2, 0, 1, 2, 0, 0, 0, 0, 0})
	f.Add([]byte{1, 0, 1, 0, 1, 1, 4, 0, 0, 0, 0, 5, 0, 1, 0, 5, 0, 8, 0, 0, 6, 0, 1, 0, 0, 0, 0, 0, 0, 1, 0, 2, 1, 5, 0, 0, 0, 0})
	f.Fuzz(func(t *testing.T, b []byte) {
		if len(b) < 2 || len(b) > 2000 {
			return
		}
		n, faults := int(int8(b[0])), int(int8(b[1]))
		var l []api.Event
		for b = b[2:]; len(b) >= 9; b = b[9:] {
			v := func(i int) int { return int(int8(b[i])) }
			l = append(l, api.Event{Kind: v(0), Node: v(1), Life: v(2), Round: v(3), Tag: v(4), Of: v(5), Durable: v(6), Heard: api.Set{uint32(b[7])}, Union: api.Set{uint32(b[8])}})
		}
		alike(t, n, faults, l)
	})
}
