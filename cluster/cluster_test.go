package cluster_test

import (
	"bytes"
	"math"
	"reflect"
	"slices"
	"testing"

	"earshot/api"
	"earshot/boot"
	"earshot/cluster"
	"earshot/disk"
	"earshot/wire"
)

// of makes a set without the help of package idset, so that the tests hang on none of its calls.
func of(ids ...int) api.Set {
	var s api.Set
	for _, id := range ids {
		s[id/32] |= 1 << (id % 32)
	}
	return s
}

// upTo is the set of 0 to n - 1.
func upTo(n int) api.Set {
	var s api.Set
	for id := range n {
		s[id/32] |= 1 << (id % 32)
	}
	return s
}

func mistake(of, tag int) api.Notice { return api.Notice{Of: of, Tag: tag, Kind: api.Mistake} }

func suspicion(of, tag int) api.Notice { return api.Notice{Of: of, Tag: tag, Kind: api.Suspicion} }

// fresh are the notices of a book of n nodes that has taken nothing.
func fresh(n int) []api.Notice {
	l := make([]api.Notice, n)
	for id := range l {
		l[id] = mistake(id, 0)
	}
	return l
}

// far are numbers that are no ids.
func far() []int {
	return []int{math.MinInt, math.MinInt + 1, -1 << 62, -1 << 32, -100, -2, -1, api.MaxNodes, 128, 1 << 32, 1<<32 + 1, 1 << 62, math.MaxInt - 1, math.MaxInt}
}

// made makes a cluster that must be made.
func made(t testing.TB, n, f int) *cluster.Cluster {
	t.Helper()
	c, e := cluster.New(n, f)
	if c == nil || e != api.OK {
		t.Fatalf("New(%d, %d): error %d", n, f, e)
	}
	return c
}

// data tells the bytes of a note of n nodes, which must be one.
func data(t testing.TB, n int, x wire.Note) []byte {
	t.Helper()
	b, e := x.Bytes(n)
	if e != api.OK {
		t.Fatalf("Bytes(%d) of %v: error %d", n, x, e)
	}
	return b
}

// does holds a step's answer; its Polls must be none.
func does(t testing.TB, c *cluster.Cluster, s api.Step, code api.Errno, events ...api.Event) {
	t.Helper()
	if got := c.Do(s); !sameAnswer(got, api.Answer{Code: code, Events: events}) {
		t.Errorf("%v: %v, not %d, %v", s, got, code, events)
	}
}

// turns holds a turn's answer.
func turns(t testing.TB, c *cluster.Cluster, a int, polls []api.Errno, events ...api.Event) {
	t.Helper()
	s := api.Step{Kind: api.StepTurn, A: a}
	if got := c.Do(s); !sameAnswer(got, api.Answer{Polls: polls, Events: events}) {
		t.Errorf("%v: %v, not %v, %v", s, got, polls, events)
	}
}

func poll(id int) api.Step { return api.Step{Kind: api.StepPoll, A: id} }

func deliver(place int) api.Step { return api.Step{Kind: api.StepDeliver, A: place} }

func drop(place int) api.Step { return api.Step{Kind: api.StepDrop, A: place} }

func forge(to int, b []byte) api.Step { return api.Step{Kind: api.StepForge, A: to, Data: b} }

func crash(id int) api.Step { return api.Step{Kind: api.StepCrash, A: id} }

func fuse(id, k int) api.Step { return api.Step{Kind: api.StepFuse, A: id, B: k} }

func restart(id int) api.Step { return api.Step{Kind: api.StepRestart, A: id} }

func flush(place int) api.Step { return api.Step{Kind: api.StepFlush, A: place} }

func begins(id, life, tag, round int) api.Event {
	return api.Event{Kind: api.EventBegin, Node: id, Life: life, Tag: tag, Round: round}
}

func asks(id, life, round int) api.Event {
	return api.Event{Kind: api.EventAsk, Node: id, Life: life, Round: round}
}

func closes(id, life, round int, heard, union api.Set) api.Event {
	return api.Event{Kind: api.EventClose, Node: id, Life: life, Round: round, Heard: heard, Union: union}
}

func falls(id, life int) api.Event {
	return api.Event{Kind: api.EventDown, Node: id, Life: life}
}

// sight tells what is seen of a node that is there.
func sight(t testing.TB, c *cluster.Cluster, id int) api.Sight {
	t.Helper()
	s, e := c.Sight(id)
	if e != api.OK {
		t.Fatalf("Sight(%d): error %d", id, e)
	}
	return s
}

// way is from whom to whom a datagram goes.
type way struct{ from, to int }

// ways holds from whom to whom the datagrams go.
func ways(t testing.TB, c *cluster.Cluster, want ...way) {
	t.Helper()
	var got []way
	for _, g := range c.Bag() {
		got = append(got, way{g.From, g.To})
	}
	if !slices.Equal(got, want) {
		t.Errorf("the bag has %v, not %v", got, want)
	}
}

// ids holds the ids of the datagrams.
func ids(t testing.TB, c *cluster.Cluster, want ...int) {
	t.Helper()
	var got []int
	for _, g := range c.Bag() {
		got = append(got, g.Id)
	}
	if !slices.Equal(got, want) {
		t.Errorf("the bag has the ids %v, not %v", got, want)
	}
}

// glance is all that is seen of a cluster.
type glance struct {
	size, faults, room int
	up                 api.Set
	sights             []api.Sight
	disks              [][]byte
	left               []int
	bag                []api.Gram
	past               []api.Event
}

func glanceAt(c *cluster.Cluster) glance {
	g := glance{size: c.Size(), faults: c.Faults(), room: c.Room(), up: c.Up(), bag: c.Bag(), past: c.History()}
	for id := range g.size {
		s, _ := c.Sight(id)
		d, _ := c.Disk(id)
		k, _ := c.Left(id)
		g.sights, g.disks, g.left = append(g.sights, s), append(g.disks, d), append(g.left, k)
	}
	return g
}

// unchanged holds that all is as it was.
func unchanged(t testing.TB, what any, c *cluster.Cluster, was glance) {
	t.Helper()
	if now := glanceAt(c); !reflect.DeepEqual(now, was) {
		t.Errorf("%v has changed\n%v to\n%v", what, was, now)
	}
}

// refused holds that a step is refused, and that nothing has changed.
func refused(t testing.TB, c *cluster.Cluster, s api.Step, code api.Errno) {
	t.Helper()
	was := glanceAt(c)
	does(t, c, s, code)
	unchanged(t, s, c, was)
}

// rounds has a cluster of one node close its rounds, up to this one.
func rounds(t testing.TB, c *cluster.Cluster, open int) {
	t.Helper()
	for sight(t, c, 0).Round < open {
		if a := c.Do(poll(0)); a.Code != api.OK {
			t.Fatalf("Poll: error %d", a.Code)
		}
	}
}

func TestExamples(t *testing.T) {
	for _, nf := range [][2]int{{0, 0}, {3, 3}} {
		if c, e := cluster.New(nf[0], nf[1]); c != nil || e != api.ErrArg {
			t.Errorf("New(%d, %d): %v, error %d", nf[0], nf[1], c, e)
		}
	}
	c := made(t, 3, 1)
	if c.Up() != of(0, 1, 2) || len(c.History()) != 3 {
		t.Errorf("up %v, %d events", c.Up(), len(c.History()))
	}
	does(t, c, api.Step{Kind: 99}, api.ErrStep)
	does(t, c, poll(0), api.ErrWaiting, asks(0, 1, 1))
	ways(t, c, way{0, 1}, way{0, 2})
	does(t, c, deliver(0), api.OK)
	ways(t, c, way{0, 2}, way{1, 0})
	does(t, c, deliver(-1), api.OK)
	does(t, c, poll(0), api.OK, closes(0, 1, 1, of(0, 1), of(0, 1, 2)), asks(0, 1, 2))
	does(t, c, crash(2), api.OK, falls(2, 1))
	does(t, c, flush(0), api.OK)
	for range 3 {
		if a := c.Do(api.Step{Kind: api.StepTurn}); a.Code != api.OK || !slices.Equal(a.Polls, []api.Errno{api.OK, api.OK}) {
			t.Errorf("a turn: %v", a)
		}
	}
	if sight(t, c, 0).Suspects != of(2) || sight(t, c, 1).Suspects != of(2) {
		t.Errorf("suspects %v, %v", sight(t, c, 0).Suspects, sight(t, c, 1).Suspects)
	}
	does(t, c, restart(2), api.OK, begins(2, 2, 4, 17))
	if c.Up() != of(0, 1, 2) {
		t.Errorf("up %v", c.Up())
	}
	refused(t, c, restart(2), api.ErrUp)
}

func TestP1801New(t *testing.T) {
	d := disk.New()
	if _, e := boot.Open(d); e != api.OK {
		t.Fatalf("boot.Open: error %d", e)
	}
	for _, nf := range [][2]int{{1, 0}, {2, 0}, {2, 1}, {33, 32}, {api.MaxNodes, 0}, {api.MaxNodes, api.MaxNodes - 1}} {
		n, f := nf[0], nf[1]
		c := made(t, n, f)
		if c.Size() != n || c.Faults() != f || c.Up() != upTo(n) || c.Room() != api.MaxBag || len(c.Bag()) != 0 {
			t.Errorf("New(%d, %d): %d, %d, up %v, room %d, bag %v", n, f, c.Size(), c.Faults(), c.Up(), c.Room(), c.Bag())
		}
		var past []api.Event
		for id := range n {
			past = append(past, begins(id, 1, 0, 1))
			want := api.Sight{Up: true, Life: 1, Round: 1, Heard: upTo(n), Repliers: of(id), Book: fresh(n)}
			if got := sight(t, c, id); !reflect.DeepEqual(got, want) {
				t.Errorf("New(%d, %d): Sight(%d) %v", n, f, id, got)
			}
			if image, e := c.Disk(id); e != api.OK || !bytes.Equal(image, d.Image()) {
				t.Errorf("New(%d, %d): Disk(%d) %x, error %d", n, f, id, image, e)
			}
			if k, e := c.Left(id); e != api.OK || k != -1 {
				t.Errorf("New(%d, %d): Left(%d) %d, error %d", n, f, id, k, e)
			}
		}
		if got := c.History(); !slices.Equal(got, past) {
			t.Errorf("New(%d, %d): %v", n, f, got)
		}
	}
}

func TestP1801Errors(t *testing.T) {
	refuses := func(n, f int) {
		t.Helper()
		if c, e := cluster.New(n, f); c != nil || e != api.ErrArg {
			t.Errorf("New(%d, %d): %v, error %d", n, f, c, e)
		}
	}
	refuses(0, 0)
	refuses(0, -1)
	refuses(api.MaxNodes+1, 0)
	refuses(3, 3)
	refuses(3, 4)
	refuses(1, 1)
	refuses(api.MaxNodes, api.MaxNodes)
	for _, v := range far() {
		refuses(3, v)
		if v != api.MaxNodes {
			refuses(v, 0)
			refuses(v, v)
		}
	}
}

// Each cluster has disks, datagrams and a history of its own.
func TestP1801Apart(t *testing.T) {
	a, b := made(t, 3, 1), made(t, 3, 1)
	was := glanceAt(b)
	a.Do(poll(0))
	a.Do(fuse(1, 3))
	a.Do(crash(2))
	a.Do(api.Step{Kind: api.StepTurn})
	unchanged(t, "another cluster", b, was)
}

func TestP1802Sends(t *testing.T) {
	c := made(t, 4, 1)
	does(t, c, poll(2), api.ErrWaiting, asks(2, 1, 1))
	ways(t, c, way{2, 0}, way{2, 1}, way{2, 3})
	does(t, c, poll(0), api.ErrWaiting, asks(0, 1, 1))
	ways(t, c, way{2, 0}, way{2, 1}, way{2, 3}, way{0, 1}, way{0, 2}, way{0, 3})
	ids(t, c, 1, 2, 3, 4, 5, 6)
	for i, g := range c.Bag() {
		from := []int{2, 0}[i/3]
		if want := data(t, 4, wire.Query{From: from, Round: 1}); !bytes.Equal(g.Data, want) {
			t.Errorf("the datagram %d is %x, not %x", i, g.Data, want)
		}
	}
	does(t, c, deliver(2), api.OK)
	ways(t, c, way{2, 0}, way{2, 1}, way{0, 1}, way{0, 2}, way{0, 3}, way{3, 2})
	ids(t, c, 1, 2, 4, 5, 6, 7)
	if want := data(t, 4, wire.Reply{From: 3, Round: 1, Heard: upTo(4)}); !bytes.Equal(c.Bag()[5].Data, want) {
		t.Errorf("the reply is %x, not %x", c.Bag()[5].Data, want)
	}
}

// full tells a cluster whose bag has room for so many more; in it is what has no byte, to the node 0.
func full(t testing.TB, n, f, room int) *cluster.Cluster {
	t.Helper()
	c := made(t, n, f)
	for range api.MaxBag - room {
		if a := c.Do(forge(0, nil)); a.Code != api.OK {
			t.Fatalf("forge: error %d", a.Code)
		}
	}
	return c
}

func TestP1802NoRoom(t *testing.T) {
	c := full(t, 4, 3, 2)
	does(t, c, poll(1), api.OK, closes(1, 1, 1, of(1), upTo(4)), asks(1, 1, 2))
	if c.Room() != 0 {
		t.Fatalf("room %d", c.Room())
	}
	l := c.Bag()[api.MaxBag-2:]
	if l[0].To != 0 || l[1].To != 2 || l[0].From != 1 || l[1].From != 1 {
		t.Errorf("what found room: %v", l)
	}
	does(t, c, poll(2), api.OK, closes(2, 1, 1, of(2), upTo(4)), asks(2, 1, 2))
	if last := c.Bag()[api.MaxBag-1]; last.Id != api.MaxBag || c.Room() != 0 {
		t.Errorf("the last one is %v, the room %d", last, c.Room())
	}
	refused(t, c, forge(0, []byte("x")), api.ErrFull)
	refused(t, c, api.Step{Kind: api.StepDouble, A: 5}, api.ErrFull)
	refused(t, c, forge(0, make([]byte, api.MaxData+1)), api.ErrLong)
	refused(t, c, forge(4, make([]byte, api.MaxData+1)), api.ErrId)
	// What was lost has used up no id; what is taken out leaves room for its reply.
	does(t, c, deliver(-1), api.OK)
	if last := c.Bag()[api.MaxBag-1]; last.Id != api.MaxBag+1 || last.From != 2 || last.To != 1 || c.Room() != 0 {
		t.Errorf("the reply is %v, the room %d", last, c.Room())
	}
	// In a turn, too, what finds no room is lost; behind its flush there is room.
	a := c.Do(api.Step{Kind: api.StepTurn, A: -1})
	if a.Code != api.OK || !slices.Equal(a.Polls, make([]api.Errno, 4)) || c.Room() != api.MaxBag-12 {
		t.Errorf("a turn: %v, the room %d", a, c.Room())
	}
}

// toTheEnd has a cluster go to where each node's next closing must write: the round 16 is open, and ready.
func toTheEnd(t testing.TB, c *cluster.Cluster) {
	t.Helper()
	for range 15 {
		if a := c.Do(api.Step{Kind: api.StepTurn}); a.Code != api.OK {
			t.Fatalf("a turn: %v", a)
		}
	}
	does(t, c, flush(0), api.OK)
	if s := sight(t, c, 0); s.Round != 16 {
		t.Fatalf("the round %d is open", s.Round)
	}
}

func TestP1802PollHalts(t *testing.T) {
	for k := range 2 {
		c := made(t, 3, 0)
		toTheEnd(t, c)
		does(t, c, fuse(1, k), api.OK)
		does(t, c, poll(1), api.ErrOff, falls(1, 1))
		if c.Up() != of(0, 2) || !reflect.DeepEqual(sight(t, c, 1), api.Sight{}) || len(c.Bag()) != 0 {
			t.Errorf("up %v, sight %v, bag %v", c.Up(), sight(t, c, 1), c.Bag())
		}
		refused(t, c, poll(1), api.ErrDown)
		refused(t, c, crash(1), api.ErrDown)
		does(t, c, restart(1), api.OK, begins(1, 2, 4, 17))
		does(t, c, crash(1), api.OK, falls(1, 2))
	}
	c := made(t, 3, 0)
	toTheEnd(t, c)
	does(t, c, fuse(1, 2), api.OK)
	does(t, c, poll(1), api.OK, closes(1, 1, 16, upTo(3), upTo(3)), asks(1, 1, 17))
}

func TestP1802HearHalts(t *testing.T) {
	for _, x := range []wire.Note{
		wire.Query{From: 2, Round: 1, News: []api.Notice{suspicion(1, 4)}},
		wire.Reply{From: 2, Round: 1, Heard: of(2), News: []api.Notice{suspicion(1, 4)}},
		wire.Rumor{From: 2, News: []api.Notice{suspicion(1, 4)}},
	} {
		for k := range 2 {
			c := made(t, 3, 0)
			does(t, c, forge(1, data(t, 3, x)), api.OK)
			does(t, c, fuse(1, k), api.OK)
			does(t, c, deliver(0), api.ErrOff, falls(1, 1))
			if c.Up() != of(0, 2) || len(c.Bag()) != 0 {
				t.Errorf("up %v, bag %v", c.Up(), c.Bag())
			}
			does(t, c, forge(1, data(t, 3, x)), api.OK)
			does(t, c, deliver(0), api.ErrDown)
			does(t, c, restart(1), api.OK, begins(1, 2, 4, 17))
		}
		c := made(t, 3, 0)
		does(t, c, forge(1, data(t, 3, x)), api.OK)
		does(t, c, fuse(1, 2), api.OK)
		does(t, c, deliver(0), api.OK, api.Event{Kind: api.EventDefend, Node: 1, Life: 1, Tag: 5, Durable: 8})
	}
}

// A node halts in a flush: what comes to it behind that is lost, all others hear theirs.
func TestP1802FlushHalts(t *testing.T) {
	c := made(t, 3, 0)
	query := data(t, 3, wire.Query{From: 2, Round: 1, News: []api.Notice{suspicion(1, 4)}})
	does(t, c, forge(1, query), api.OK)
	does(t, c, forge(0, query), api.OK)
	does(t, c, forge(1, query), api.OK)
	does(t, c, fuse(1, 1), api.OK)
	does(t, c, flush(0), api.OK, falls(1, 1))
	if s := sight(t, c, 0); s.Suspects != of(1) || len(c.Bag()) != 0 {
		t.Errorf("suspects %v, bag %v", s.Suspects, c.Bag())
	}
	if s := sight(t, c, 2); s.Repliers != of(0, 2) || s.Suspects != of(1) {
		t.Errorf("2 has repliers %v, suspects %v", s.Repliers, s.Suspects)
	}
}

// Nodes halt in the first row of a turn: the others go on, and come to the second one alone.
func TestP1802FirstRowHalts(t *testing.T) {
	c := made(t, 4, 0)
	toTheEnd(t, c)
	for _, id := range []int{1, 3} {
		does(t, c, fuse(id, 0), api.OK)
	}
	all := upTo(4)
	turns(t, c, 0, []api.Errno{api.ErrWaiting, api.ErrWaiting},
		closes(0, 1, 16, all, all), asks(0, 1, 17), falls(1, 1),
		closes(2, 1, 16, all, all), asks(2, 1, 17), falls(3, 1),
		asks(0, 1, 17), asks(2, 1, 17))
	if c.Up() != of(0, 2) || sight(t, c, 2).Repliers != of(0, 2) {
		t.Errorf("up %v, the repliers of 2 are %v", c.Up(), sight(t, c, 2).Repliers)
	}
	ways(t, c, way{0, 1}, way{0, 2}, way{0, 3}, way{2, 0}, way{2, 1}, way{2, 3})
}

// In the second row what the node that halts has answered is told among the others.
func TestP1802SecondRowHalts(t *testing.T) {
	c := made(t, 3, 0)
	for range 15 {
		c.Do(api.Step{Kind: api.StepTurn})
	}
	does(t, c, fuse(1, 0), api.OK)
	all := upTo(3)
	turns(t, c, 0, []api.Errno{api.OK, api.ErrOff, api.OK},
		asks(0, 1, 16), asks(1, 1, 16), asks(2, 1, 16),
		closes(0, 1, 16, all, all), asks(0, 1, 17), falls(1, 1), closes(2, 1, 16, all, all), asks(2, 1, 17))
	if c.Up() != of(0, 2) {
		t.Errorf("up %v", c.Up())
	}
	ways(t, c, way{0, 1}, way{0, 2}, way{2, 0}, way{2, 1})
	turns(t, c, 0, []api.Errno{api.ErrWaiting, api.ErrWaiting}, asks(0, 1, 17), asks(2, 1, 17), asks(0, 1, 17), asks(2, 1, 17))
}

func TestP1803NoStep(t *testing.T) {
	c := made(t, 3, 1)
	c.Do(poll(0))
	for _, kind := range append(far(), 0, 13, 14, 99, 1<<8+1, 1<<16+2) {
		refused(t, c, api.Step{Kind: kind}, api.ErrStep)
		refused(t, c, api.Step{Kind: kind, A: 1, B: 1, C: 1, Data: []byte("x")}, api.ErrStep)
	}
}

func TestP1803NoNode(t *testing.T) {
	c := made(t, 3, 1)
	c.Do(poll(0))
	for _, id := range append(far(), 3) {
		for _, kind := range []int{api.StepPoll, api.StepForge, api.StepCrash, api.StepFuse, api.StepRestart} {
			refused(t, c, api.Step{Kind: kind, A: id}, api.ErrId)
			refused(t, c, api.Step{Kind: kind, A: id, B: -1, C: 1, Data: make([]byte, api.MaxData+1)}, api.ErrId)
		}
	}
}

func TestP1803NoDatagram(t *testing.T) {
	c := made(t, 3, 1)
	for _, place := range append(far(), 0, 1) {
		for kind := api.StepDeliver; kind <= api.StepSpoil; kind++ {
			refused(t, c, api.Step{Kind: kind, A: place}, api.ErrGram)
			refused(t, c, api.Step{Kind: kind, A: place, B: 1, C: 1}, api.ErrGram)
		}
		does(t, c, flush(place), api.OK)
	}
}

func TestP1803Poll(t *testing.T) {
	c := made(t, 2, 1)
	does(t, c, poll(1), api.OK, closes(1, 1, 1, of(1), of(0, 1)), asks(1, 1, 2))
	doubt := api.Event{Kind: api.EventDoubt, Node: 1, Life: 1, Round: 2}
	does(t, c, poll(1), api.OK, closes(1, 1, 2, of(1), of(1)), doubt, asks(1, 1, 3))
	ways(t, c, way{1, 0}, way{1, 0})
	does(t, c, crash(1), api.OK, falls(1, 1))
	refused(t, c, poll(1), api.ErrDown)
	if s := sight(t, c, 0); s.Round != 1 || s.Repliers != of(0) {
		t.Errorf("0 has the round %d, the repliers %v", s.Round, s.Repliers)
	}

	c = made(t, 2, 0)
	for range 3 {
		does(t, c, poll(1), api.ErrWaiting, asks(1, 1, 1))
	}
	ways(t, c, way{1, 0}, way{1, 0}, way{1, 0})
}

// Datagrams are counted round: of three the place 4 is 1, the place -1 is 2.
func TestP1803CountedRound(t *testing.T) {
	for _, v := range append(far(), 0, 1, 2, 3, 4, 5, -3, -4) {
		want := ((v % 3) + 3) % 3
		c := made(t, 4, 1)
		c.Do(poll(0))
		left := slices.Delete([]int{1, 2, 3}, want, want+1)
		does(t, c, drop(v), api.OK)
		ids(t, c, left...)

		c = made(t, 4, 1)
		c.Do(poll(0))
		does(t, c, deliver(v), api.OK)
		ids(t, c, append(slices.Clone(left), 4)...)
		if g := c.Bag()[2]; g.From != want+1 || g.To != 0 {
			t.Errorf("at %d the reply is from %d to %d", v, g.From, g.To)
		}

		c = made(t, 4, 1)
		c.Do(poll(0))
		does(t, c, api.Step{Kind: api.StepDouble, A: v}, api.OK)
		ids(t, c, 1, 2, 3, 4)
		if g, of := c.Bag()[3], c.Bag()[want]; g.From != 0 || g.To != of.To || !bytes.Equal(g.Data, of.Data) {
			t.Errorf("at %d the double is %v", v, g)
		}

		c = made(t, 4, 1)
		c.Do(poll(0))
		does(t, c, api.Step{Kind: api.StepMove, A: v, B: 1}, api.OK)
		ids(t, c, slices.Insert(slices.Clone(left), 1, want+1)...)
		c = made(t, 4, 1)
		c.Do(poll(0))
		does(t, c, api.Step{Kind: api.StepMove, A: 0, B: v}, api.OK)
		ids(t, c, slices.Insert([]int{2, 3}, want, 1)...)

		c = made(t, 4, 1)
		c.Do(poll(0))
		was := c.Bag()
		does(t, c, api.Step{Kind: api.StepSpoil, A: v, B: v, C: 5}, api.OK)
		b := was[want].Data
		b[((v%len(b))+len(b))%len(b)] ^= 5
		if !sameGrams(c.Bag(), was) {
			t.Errorf("spoilt at %d: %v", v, c.Bag())
		}
	}
}

func TestP1803Deliver(t *testing.T) {
	c := made(t, 3, 1)
	c.Do(poll(0))
	c.Do(crash(2))
	was := glanceAt(c)
	// To a node that is down: it is lost, and nothing else is.
	does(t, c, deliver(1), api.ErrDown)
	ids(t, c, 1)
	was.bag, was.room = was.bag[:1], was.room+1
	unchanged(t, "what comes to a node that is down", c, was)
	// What is refused by Hear is taken out, too.
	for _, x := range []struct {
		b []byte
		e api.Errno
	}{
		{nil, api.ErrShort},
		{[]byte("x"), api.ErrShort},
		{[]byte("xx"), api.ErrMagic},
		{data(t, 3, wire.Rumor{From: 1}), api.ErrFrom},
		{data(t, 4, wire.Rumor{From: 0}), api.ErrSize},
		{append(data(t, 3, wire.Rumor{From: 0}), 0), api.ErrLong},
	} {
		was = glanceAt(c)
		does(t, c, forge(1, x.b), api.OK)
		does(t, c, deliver(-1), x.e)
		unchanged(t, x, c, was)
	}
	does(t, c, deliver(0), api.OK)
	does(t, c, deliver(0), api.OK)
	if s := sight(t, c, 0); s.Repliers != of(0, 1) || len(c.Bag()) != 0 {
		t.Errorf("repliers %v, bag %v", s.Repliers, c.Bag())
	}
}

func TestP1803Spoil(t *testing.T) {
	c := made(t, 2, 0)
	c.Do(poll(0))
	for _, by := range append(far(), 0, 256, 257) {
		if by == api.MaxNodes || by == 128 {
			continue
		}
		refused(t, c, api.Step{Kind: api.StepSpoil, C: by}, api.ErrArg)
	}
	does(t, c, forge(1, nil), api.OK)
	refused(t, c, api.Step{Kind: api.StepSpoil, A: 1, C: 1}, api.ErrArg)
	for _, by := range []int{1, 128, 255} {
		was := c.Bag()[0].Data
		does(t, c, api.Step{Kind: api.StepSpoil, B: 3, C: by}, api.OK)
		was[3] ^= byte(by)
		if got := c.Bag()[0].Data; !bytes.Equal(got, was) {
			t.Errorf("spoilt by %d: %x, not %x", by, got, was)
		}
	}
}

func TestP1803Forge(t *testing.T) {
	c := made(t, 3, 1)
	b := bytes.Repeat([]byte("x"), api.MaxData)
	does(t, c, forge(2, b), api.OK)
	refused(t, c, forge(2, append(b, 'x')), api.ErrLong)
	does(t, c, forge(0, nil), api.OK)
	does(t, c, crash(1), api.OK, falls(1, 1))
	does(t, c, forge(1, []byte("y")), api.OK)
	want := []api.Gram{{Id: 1, From: -1, To: 2, Data: b}, {Id: 2, From: -1, To: 0}, {Id: 3, From: -1, To: 1, Data: []byte("y")}}
	if got := c.Bag(); !sameGrams(got, want) {
		t.Errorf("the bag has %v", got)
	}
	// Nothing of what is handed in is kept.
	clear(b)
	if c.Bag()[0].Data[7] != 'x' {
		t.Errorf("the bytes of a step are kept")
	}
}

func TestP1803Crash(t *testing.T) {
	c := made(t, 3, 1)
	c.Do(fuse(1, 5))
	image, _ := c.Disk(1)
	does(t, c, crash(1), api.OK, falls(1, 1))
	if got, e := c.Disk(1); e != api.OK || !bytes.Equal(got, image) {
		t.Errorf("the disk is %x, error %d", got, e)
	}
	if k, e := c.Left(1); e != api.OK || k != 5 {
		t.Errorf("the fuse is %d, error %d", k, e)
	}
	if c.Up() != of(0, 2) || !reflect.DeepEqual(sight(t, c, 1), api.Sight{}) {
		t.Errorf("up %v, sight %v", c.Up(), sight(t, c, 1))
	}
	refused(t, c, crash(1), api.ErrDown)
	for _, id := range []int{0, 2} {
		does(t, c, crash(id), api.OK, falls(id, 1))
	}
	turns(t, c, 0, nil)
	if c.Up() != of() {
		t.Errorf("up %v", c.Up())
	}
}

func TestP1803Fuse(t *testing.T) {
	c := made(t, 3, 1)
	for _, k := range []int{0, 1, 7, math.MaxInt, 0} {
		does(t, c, fuse(1, k), api.OK)
		if got, e := c.Left(1); got != k || e != api.OK {
			t.Errorf("Left: %d, error %d, not %d", got, e, k)
		}
		for _, bad := range []int{-1, -2, math.MinInt} {
			refused(t, c, fuse(1, bad), api.ErrArg)
		}
		if got, _ := c.Left(0); got != -1 {
			t.Errorf("0 has the fuse %d", got)
		}
	}
	// Of one that is down, too; its restart burns it.
	does(t, c, crash(2), api.OK, falls(2, 1))
	refused(t, c, fuse(2, -1), api.ErrArg)
	does(t, c, fuse(2, 3), api.OK)
	does(t, c, restart(2), api.OK, begins(2, 2, 4, 17))
	if got, _ := c.Left(2); got != 1 {
		t.Errorf("2 has the fuse %d", got)
	}
}

func TestP1803Restart(t *testing.T) {
	c := made(t, 3, 1)
	refused(t, c, restart(0), api.ErrUp)
	does(t, c, crash(0), api.OK, falls(0, 1))
	image, _ := c.Disk(0)
	for k := range 2 {
		does(t, c, fuse(0, k), api.OK)
		does(t, c, restart(0), api.ErrOff)
		if got, _ := c.Left(0); got != -1 || c.Up() != of(1, 2) || !reflect.DeepEqual(sight(t, c, 0), api.Sight{}) {
			t.Errorf("behind a restart that was refused: fuse %d, up %v, %v", got, c.Up(), sight(t, c, 0))
		}
		refused(t, c, poll(0), api.ErrDown)
		refused(t, c, crash(0), api.ErrDown)
		got, _ := c.Disk(0)
		if bytes.Equal(got, image) != (k == 0) {
			t.Errorf("with the fuse %d the disk is %x", k, got)
		}
	}
	does(t, c, restart(0), api.OK, begins(0, 2, 4, 17))
	want := api.Sight{Up: true, Life: 2, Round: 17, Tag: 4, Heard: upTo(3), Repliers: of(0), Book: []api.Notice{mistake(0, 4), mistake(1, 0), mistake(2, 0)}}
	if got := sight(t, c, 0); !reflect.DeepEqual(got, want) {
		t.Errorf("the new life: %v", got)
	}
	does(t, c, poll(0), api.ErrWaiting, asks(0, 2, 17))
	does(t, c, crash(0), api.OK, falls(0, 2))
	does(t, c, restart(0), api.OK, begins(0, 3, 8, 33))
	if got := c.History(); !slices.Equal(got, []api.Event{begins(0, 1, 0, 1), begins(1, 1, 0, 1), begins(2, 1, 0, 1), falls(0, 1), begins(0, 2, 4, 17), asks(0, 2, 17), falls(0, 2), begins(0, 3, 8, 33)}) {
		t.Errorf("the history is %v", got)
	}
}

// A reply to a round of an earlier life is not counted (W8).
func TestP1803EarlierLife(t *testing.T) {
	c := made(t, 3, 0)
	c.Do(poll(0))
	c.Do(deliver(0))
	c.Do(deliver(0))
	c.Do(crash(0))
	c.Do(restart(0))
	does(t, c, flush(0), api.OK)
	if s := sight(t, c, 0); s.Repliers != of(0) {
		t.Errorf("repliers %v", s.Repliers)
	}
}

func TestP1803FlushOrder(t *testing.T) {
	// Of two queries to 1 and 2 the flush at 0 delivers that to 1, to 2, then the replies; at -1 the newest ones first: 2, its reply, 1, its reply.
	for _, x := range []struct {
		a     int
		heard api.Set
	}{{0, of(0, 1)}, {-1, of(0, 2)}, {1, of(0, 2)}, {2, of(0, 1)}, {math.MinInt, of(0, 1)}, {math.MaxInt, of(0, 2)}} {
		c := made(t, 3, 1)
		c.Do(poll(0))
		does(t, c, flush(x.a), api.OK)
		if s := sight(t, c, 0); s.Repliers != x.heard || len(c.Bag()) != 0 {
			t.Errorf("a flush at %d: the repliers are %v, the bag has %v", x.a, s.Repliers, c.Bag())
		}
	}
}

// parts does by single steps what a flush or a turn is; the answers of its last Polls, and all events.
func parts(c *cluster.Cluster, s api.Step) api.Answer {
	var told api.Answer
	do := func(s api.Step) api.Errno {
		a := c.Do(s)
		told.Events = append(told.Events, a.Events...)
		return a.Code
	}
	row := func() {
		told.Polls = nil
		for id := range c.Size() {
			if up := c.Up(); up[id/32]>>(id%32)&1 == 1 {
				told.Polls = append(told.Polls, do(poll(id)))
			}
		}
	}
	if s.Kind == api.StepTurn {
		row()
	}
	for len(c.Bag()) > 0 {
		do(deliver(s.A))
	}
	if s.Kind == api.StepTurn {
		row()
	}
	return told
}

// A flush and a turn are what the steps do of which they are made, however the goroutines of a turn run.
func TestP1803Parts(t *testing.T) {
	for seed := range 60 {
		d := dice(seed)
		n := 1 + d.below(6)
		f := d.below(n)
		whole, single, again := made(t, n, f), made(t, n, f), made(t, n, f)
		for range 120 {
			s := d.any(n)
			if d.below(6) == 0 {
				s = api.Step{Kind: api.StepTurn, A: d.number()}
			}
			want := whole.Do(s)
			if got := again.Do(s); !sameAnswer(got, want) {
				t.Fatalf("%v: %v and %v", s, got, want)
			}
			if s.Kind != api.StepFlush && s.Kind != api.StepTurn {
				single.Do(s)
				continue
			}
			if got := parts(single, s); !sameAnswer(got, want) {
				t.Fatalf("%v: %v, by its parts %v", s, want, got)
			}
			unchanged(t, s, single, glanceAt(whole))
		}
		unchanged(t, "the same steps again", again, glanceAt(whole))
	}
}

// What a step does not need is not looked at.
func TestP1803OtherFields(t *testing.T) {
	a, b := made(t, 3, 1), made(t, 3, 1)
	for seed := range 300 {
		d := dice(seed)
		s := d.any(3)
		more := s
		if s.Kind != api.StepMove && s.Kind != api.StepSpoil && s.Kind != api.StepFuse {
			more.B = d.number()
		}
		if s.Kind != api.StepSpoil {
			more.C = d.number()
		}
		if s.Kind != api.StepForge {
			more.Data = make([]byte, d.below(2000))
		}
		if x, y := a.Do(s), b.Do(more); !sameAnswer(x, y) {
			t.Fatalf("%v: %v, and with more fields %v", s, x, y)
		}
		unchanged(t, s, b, glanceAt(a))
	}
}

func TestP1804Answer(t *testing.T) {
	c := made(t, 1, 0)
	turns(t, c, 0, []api.Errno{api.OK}, closes(0, 1, 1, of(0), of(0)), asks(0, 1, 2), closes(0, 1, 2, of(0), of(0)), asks(0, 1, 3))
	rounds(t, c, 16)
	does(t, c, fuse(0, 0), api.OK)
	// In the first row it goes down: in the second one nobody is left.
	turns(t, c, 0, nil, falls(0, 1))
	turns(t, c, 0, nil)
	does(t, c, restart(0), api.OK, begins(0, 2, 4, 17))
	rounds(t, c, 31)
	does(t, c, fuse(0, 0), api.OK)
	// In the second row: its answer is told.
	turns(t, c, 0, []api.Errno{api.ErrOff}, closes(0, 2, 31, of(0), of(0)), asks(0, 2, 32), falls(0, 2))

	c = made(t, 3, 1)
	does(t, c, crash(1), api.OK, falls(1, 1))
	does(t, c, crash(2), api.OK, falls(2, 1))
	turns(t, c, 0, []api.Errno{api.ErrWaiting}, asks(0, 1, 1), asks(0, 1, 1))
	does(t, c, restart(2), api.OK, begins(2, 2, 4, 17))
	want := []api.Event{
		asks(0, 1, 1), asks(2, 2, 17),
		closes(0, 1, 1, of(0, 2), upTo(3)), asks(0, 1, 2), closes(2, 2, 17, of(0, 2), upTo(3)), asks(2, 2, 18),
	}
	turns(t, c, 0, []api.Errno{api.OK, api.OK}, want...)
}

// The doubts of a step come behind its EventClose, ahead of its EventAsk.
func TestP1804Doubts(t *testing.T) {
	c := made(t, 3, 1)
	c.Do(crash(2))
	for range 2 {
		c.Do(api.Step{Kind: api.StepTurn})
	}
	doubt := api.Event{Kind: api.EventDoubt, Life: 1, Of: 2, Round: 2}
	other := doubt
	other.Node = 1
	past := c.History()
	want := []api.Event{closes(0, 1, 2, of(0, 1), of(0, 1)), doubt, asks(0, 1, 3), closes(1, 1, 2, of(0, 1), of(0, 1)), other, asks(1, 1, 3)}
	if got := past[len(past)-6:]; !slices.Equal(got, want) {
		t.Errorf("the history ends with %v, not %v", got, want)
	}
}

func TestP1805NoNode(t *testing.T) {
	c := made(t, 3, 1)
	for _, id := range append(far(), 3) {
		if s, e := c.Sight(id); e != api.ErrId || !reflect.DeepEqual(s, api.Sight{}) {
			t.Errorf("Sight(%d): %v, error %d", id, s, e)
		}
		if b, e := c.Disk(id); e != api.ErrId || len(b) != 0 {
			t.Errorf("Disk(%d): %v, error %d", id, b, e)
		}
		if k, e := c.Left(id); e != api.ErrId || k != 0 {
			t.Errorf("Left(%d): %d, error %d", id, k, e)
		}
	}
}

// spoilt turns all that is handed out.
func spoilt(g glance) {
	for i := range g.sights {
		clear(g.sights[i].Book)
		clear(g.disks[i])
	}
	for i := range g.bag {
		clear(g.bag[i].Data)
		g.bag[i] = api.Gram{}
	}
	clear(g.past)
}

func TestP1805NewMemory(t *testing.T) {
	c, twin := made(t, 3, 1), made(t, 3, 1)
	d := dice(7)
	for range 300 {
		s := d.any(3)
		a := c.Do(s)
		want := twin.Do(s)
		if !sameAnswer(a, want) {
			t.Fatalf("%v: %v, not %v", s, a, want)
		}
		// What is handed out may be turned, and appended to.
		_ = append(append(a.Events, api.Event{Kind: 77}), a.Events...)
		_ = append(c.History(), api.Event{Kind: 77})
		_ = append(c.Bag(), api.Gram{Id: 77})
		clear(a.Events)
		clear(a.Polls)
		spoilt(glanceAt(c))
		unchanged(t, s, c, glanceAt(twin))
	}
}

func TestP1805Reads(t *testing.T) {
	c := made(t, 3, 1)
	c.Do(poll(1))
	was := glanceAt(c)
	for range 3 {
		unchanged(t, "reading", c, was)
	}
	if c.Room() != api.MaxBag-2 || len(c.Bag()) != 2 {
		t.Errorf("room %d, bag %v", c.Room(), c.Bag())
	}
}

func TestP1806NilAndZero(t *testing.T) {
	var none *cluster.Cluster
	var zero cluster.Cluster
	for _, c := range []*cluster.Cluster{none, &zero} {
		for kind := -1; kind <= 13; kind++ {
			for _, a := range []int{-1, 0, 1} {
				does(t, c, api.Step{Kind: kind, A: a, B: a, C: 1, Data: []byte("x")}, api.ErrStep)
			}
		}
		for _, id := range append(far(), 0, 1) {
			s, e := c.Sight(id)
			b, e2 := c.Disk(id)
			k, e3 := c.Left(id)
			if e != api.ErrId || e2 != api.ErrId || e3 != api.ErrId || len(b) != 0 || k != 0 || !reflect.DeepEqual(s, api.Sight{}) {
				t.Errorf("of %d: %v, %v, %d; errors %d, %d, %d", id, s, b, k, e, e2, e3)
			}
		}
		if g := glanceAt(c); g.size != 0 || g.faults != 0 || g.room != 0 || g.up != of() || len(g.bag) != 0 || len(g.past) != 0 {
			t.Errorf("all else: %v", g)
		}
	}
}
