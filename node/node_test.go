package node_test

import (
	"bytes"
	"math"
	"reflect"
	"slices"
	"testing"

	"earshot/api"
	"earshot/disk"
	"earshot/node"
	"earshot/slot"
	"earshot/wire"
)

// of makes a set without the help of package idset, so that the tests hang on none of its calls.
func of(ids ...int) api.Set {
	var s api.Set
	for _, id := range ids {
		s[id/32] |= 1 << (id % 32)
	}
	return s
}

// upTo is the set of 0 to n - 1.
func upTo(n int) api.Set {
	var s api.Set
	for id := range n {
		s[id/32] |= 1 << (id % 32)
	}
	return s
}

func mistake(of, tag int) api.Notice { return api.Notice{Of: of, Tag: tag, Kind: api.Mistake} }

func suspicion(of, tag int) api.Notice { return api.Notice{Of: of, Tag: tag, Kind: api.Suspicion} }

// fresh are the notices of a book of n nodes that has taken nothing.
func fresh(n int) []api.Notice {
	l := make([]api.Notice, n)
	for id := range l {
		l[id] = mistake(id, 0)
	}
	return l
}

// far are numbers that are no ids.
func far() []int {
	return []int{math.MinInt, math.MinInt + 1, -1 << 62, -1 << 32, -100, -2, -1, api.MaxNodes, 128, 1 << 32, 1<<32 + 1, 1 << 62, math.MaxInt - 1, math.MaxInt}
}

// having is a disk with a record at a seq in its slot 0.
func having(t testing.TB, r api.Record, seq int) *disk.Disk {
	t.Helper()
	b, e := slot.Encode(r, seq)
	if e != api.OK {
		t.Fatalf("Encode(%v, %d): error %d", r, seq, e)
	}
	image := make([]byte, api.Sectors*api.SectorSize)
	copy(image, b)
	d, e := disk.Of(image)
	if e != api.OK {
		t.Fatalf("Of: error %d", e)
	}
	return d
}

// open begins a life that must begin.
func open(t testing.TB, n, f, self int, d *disk.Disk) *node.Node {
	t.Helper()
	x, e := node.Open(n, f, self, d)
	if x == nil || e != api.OK {
		t.Fatalf("Open(%d, %d, %d, ..): error %d", n, f, self, e)
	}
	return x
}

// refusesToOpen holds that no life begins.
func refusesToOpen(t testing.TB, n, f, self int, d *disk.Disk, want api.Errno) {
	t.Helper()
	if x, e := node.Open(n, f, self, d); x != nil || e != want {
		t.Errorf("Open(%d, %d, %d, ..): %v, error %d, not error %d", n, f, self, x, e, want)
	}
}

// data tells the bytes of a note of n nodes, which must be one.
func data(t testing.TB, n int, x wire.Note) []byte {
	t.Helper()
	b, e := x.Bytes(n)
	if e != api.OK {
		t.Fatalf("Bytes(%d) of %v: error %d", n, x, e)
	}
	return b
}

// out tells what is sent, of notes.
func out(t testing.TB, n int, to int, x wire.Note) api.Out {
	t.Helper()
	return api.Out{To: to, Data: data(t, n, x)}
}

// queries tells what a node sends that asks.
func queries(t testing.TB, n int, q wire.Query) []api.Out {
	t.Helper()
	var l []api.Out
	for id := range n {
		if id != q.From {
			l = append(l, out(t, n, id, q))
		}
	}
	return l
}

// sameOut tells whether two lists of datagrams are alike.
func sameOut(a, b []api.Out) bool {
	return slices.EqualFunc(a, b, func(x, y api.Out) bool { return x.To == y.To && bytes.Equal(x.Data, y.Data) })
}

// polls holds what a Poll answers.
func polls(t testing.TB, x *node.Node, code api.Errno, want ...api.Out) {
	t.Helper()
	if got, e := x.Poll(); e != code || !sameOut(got, want) {
		t.Errorf("Poll: %v, error %d, not %v, error %d", got, e, want, code)
	}
}

// hears holds what a Hear of bytes answers, and that these stay as they were.
func hears(t testing.TB, x *node.Node, b []byte, code api.Errno, want ...api.Out) {
	t.Helper()
	was := slices.Clone(b)
	if got, e := x.Hear(b); e != code || !sameOut(got, want) {
		t.Errorf("Hear(%x): %v, error %d, not %v, error %d", was, got, e, want, code)
	}
	if !bytes.Equal(b, was) {
		t.Errorf("Hear(%x): the bytes are %x now", was, b)
	}
}

// takes holds that a node of n hears a note, OK, and sends these.
func takes(t testing.TB, n int, x *node.Node, note wire.Note, want ...api.Out) {
	t.Helper()
	hears(t, x, data(t, n, note), api.OK, want...)
}

// looks holds what is seen of a node; lists that are nil and empty are one.
func looks(t testing.TB, x *node.Node, want api.Sight) {
	t.Helper()
	got := x.Sight()
	if len(got.Book) == 0 && len(want.Book) == 0 {
		got.Book, want.Book = nil, nil
	}
	if !reflect.DeepEqual(got, want) {
		t.Errorf("Sight:\n%v, not\n%v", got, want)
	}
	if x.Up() != want.Up {
		t.Errorf("Up: %v", x.Up())
	}
}

// past holds a node's events.
func past(t testing.TB, x *node.Node, want ...api.Event) {
	t.Helper()
	if got := x.Past(); !slices.Equal(got, want) {
		t.Errorf("Past:\n%v, not\n%v", got, want)
	}
}

// since holds what has happened to a node behind so many events.
func since(t testing.TB, x *node.Node, many int, want ...api.Event) {
	t.Helper()
	if got := x.Past(); len(got) < many || !slices.Equal(got[many:], want) {
		t.Errorf("Past behind %d events:\n%v, not\n%v", many, got, want)
	}
}

// ending holds that a node is down, with the events that it had.
func ending(t testing.TB, x *node.Node, events []api.Event) {
	t.Helper()
	looks(t, x, api.Sight{})
	past(t, x, events...)
	polls(t, x, api.ErrDown)
	hears(t, x, nil, api.ErrDown)
	past(t, x, events...)
}

// glance is all that can be told of a node and its disk without a change.
type glance struct {
	sight api.Sight
	past  []api.Event
	image []byte
	left  int
	on    bool
}

// glanceAt tells it in memory of the test's own, so that what is turned elsewhere does not turn it.
func glanceAt(x *node.Node, d *disk.Disk) glance {
	s := x.Sight()
	s.Book = slices.Clone(s.Book)
	return glance{s, slices.Clone(x.Past()), slices.Clone(d.Image()), d.Left(), d.On()}
}

// unchanged holds that a node and its disk are as they were.
func unchanged(t testing.TB, what string, x *node.Node, d *disk.Disk, was glance) {
	t.Helper()
	if now := glanceAt(x, d); !reflect.DeepEqual(now, was) {
		t.Errorf("%s:\n%v, not\n%v", what, now, was)
	}
}

// ready has a node of n hear replies to its open round, with these sets, until it could close it.
func ready(t testing.TB, n int, x *node.Node, heards map[int]api.Set) {
	t.Helper()
	round := x.Sight().Round
	for id := range n {
		if s, is := heards[id]; is {
			takes(t, n, x, wire.Reply{From: id, Round: round, Heard: s})
		}
	}
}

func TestExamples(t *testing.T) {
	refusesToOpen(t, 3, 3, 0, disk.New(), api.ErrArg)
	refusesToOpen(t, 3, 1, 3, disk.New(), api.ErrId)
	refusesToOpen(t, 3, 1, 0, nil, api.ErrOff)
	a, b, c := open(t, 3, 1, 0, disk.New()), open(t, 3, 1, 1, disk.New()), open(t, 3, 1, 2, disk.New())
	looks(t, a, api.Sight{Up: true, Life: 1, Round: 1, Heard: of(0, 1, 2), Repliers: of(0), Book: fresh(3)})
	polls(t, a, api.ErrWaiting, queries(t, 3, wire.Query{From: 0, Round: 1})...)
	since(t, a, 1, api.Event{Kind: api.EventAsk, Node: 0, Life: 1, Round: 1})
	first := wire.Reply{From: 1, Round: 1, Heard: of(0, 1, 2)}
	takes(t, 3, b, wire.Query{From: 0, Round: 1}, out(t, 3, 0, first))
	takes(t, 3, a, first)
	if got := a.Sight().Repliers; got != of(0, 1) {
		t.Errorf("Repliers: %v", got)
	}
	polls(t, a, api.OK, queries(t, 3, wire.Query{From: 0, Round: 2})...)
	looks(t, a, api.Sight{Up: true, Life: 1, Round: 2, Heard: of(0, 1), Repliers: of(0), Book: fresh(3)})

	polls(t, b, api.ErrWaiting, queries(t, 3, wire.Query{From: 1, Round: 1})...)
	back := wire.Reply{From: 0, Round: 1, Heard: of(0, 1)}
	takes(t, 3, a, wire.Query{From: 1, Round: 1}, out(t, 3, 1, back))
	takes(t, 3, b, back)
	polls(t, b, api.OK, queries(t, 3, wire.Query{From: 1, Round: 2})...)
	second := wire.Reply{From: 1, Round: 2, Heard: of(0, 1)}
	takes(t, 3, b, wire.Query{From: 0, Round: 2}, out(t, 3, 0, second))
	takes(t, 3, a, second)
	doubt := wire.Query{From: 0, Round: 3, News: []api.Notice{suspicion(2, 0)}}
	polls(t, a, api.OK, queries(t, 3, doubt)...)
	if got := a.Sight().Suspects; got != of(2) {
		t.Errorf("Suspects: %v", got)
	}

	defence := wire.Reply{From: 2, Round: 3, Heard: of(0, 1, 2), News: []api.Notice{mistake(2, 1)}}
	takes(t, 3, c, doubt, out(t, 3, 0, defence))
	since(t, c, 1, api.Event{Kind: api.EventDefend, Node: 2, Life: 1, Tag: 1, Durable: 4})
	if got := c.Sight().Tag; got != 1 {
		t.Errorf("Tag: %d", got)
	}
	takes(t, 3, a, defence)
	if got := a.Sight().Suspects; got != of() {
		t.Errorf("Suspects: %v", got)
	}
	events := a.Past()
	a.Halt()
	ending(t, a, events)
}

func TestP1701Open(t *testing.T) {
	for _, n := range []int{1, 2, 3, 31, 32, 33, 64, 65, 96, 97, api.MaxNodes} {
		for _, f := range []int{0, n / 2, n - 1} {
			for _, self := range []int{0, n / 2, n - 1} {
				x := open(t, n, f, self, disk.New())
				looks(t, x, api.Sight{Up: true, Life: 1, Round: 1, Heard: upTo(n), Repliers: of(self), Book: fresh(n)})
				past(t, x, api.Event{Kind: api.EventBegin, Node: self, Life: 1, Round: 1})
			}
		}
	}
}

func TestP1701Errors(t *testing.T) {
	d := disk.New()
	d.Fuse(7)
	for _, n := range append(far(), 0, api.MaxNodes+1) {
		if n == api.MaxNodes {
			continue
		}
		refusesToOpen(t, n, 0, 0, d, api.ErrArg)
		refusesToOpen(t, n, -1, -1, nil, api.ErrArg)
	}
	for _, n := range []int{1, 3, api.MaxNodes} {
		for _, f := range append(far(), n, n+1) {
			refusesToOpen(t, n, f, 0, d, api.ErrArg)
			refusesToOpen(t, n, f, n, nil, api.ErrArg)
		}
		for _, self := range append(far(), n, n+1) {
			refusesToOpen(t, n, n-1, self, d, api.ErrId)
			refusesToOpen(t, n, 0, self, nil, api.ErrId)
		}
		refusesToOpen(t, n, 0, n-1, nil, api.ErrOff)
	}
	if d.Writes() != 0 || d.Left() != 7 || !d.On() {
		t.Errorf("a refused Open has written: %d, fuse %d", d.Writes(), d.Left())
	}
	d.Cut()
	refusesToOpen(t, 3, 1, 0, d, api.ErrOff)
}

// Each write of a start may be the one at which the power fails; what is behind them is the life that the words of chapter 12 tell.
func TestP1701PowerFails(t *testing.T) {
	for k := range 2 {
		d := disk.New()
		d.Fuse(k)
		refusesToOpen(t, 3, 1, 0, d, api.ErrOff)
		d.Restore()
		past(t, open(t, 3, 1, 0, d), api.Event{Kind: api.EventBegin, Life: 1, Round: 1})
	}
	d := disk.New()
	d.Fuse(2)
	past(t, open(t, 3, 1, 0, d), api.Event{Kind: api.EventBegin, Life: 1, Round: 1})
}

func TestP1701LaterLives(t *testing.T) {
	for _, c := range []struct {
		on               api.Record
		life, round, tag int
	}{
		{api.Record{Life: 1, Round: 16, Tag: 4}, 2, 17, 4},
		{api.Record{Life: 7, Round: 0, Tag: 0}, 8, 1, 0},
		{api.Record{Life: api.MaxLife - 1, Round: 3, Tag: api.MaxTag}, api.MaxLife, 4, api.MaxTag},
		{api.Record{Life: 2, Round: api.MaxRound - 1, Tag: api.MaxTag - 1}, 3, api.MaxRound, api.MaxTag - 1},
	} {
		x := open(t, 3, 1, 2, having(t, c.on, 5))
		book := fresh(3)
		book[2] = mistake(2, c.tag)
		looks(t, x, api.Sight{Up: true, Life: c.life, Round: c.round, Tag: c.tag, Heard: upTo(3), Repliers: of(2), Book: book})
		past(t, x, api.Event{Kind: api.EventBegin, Node: 2, Life: c.life, Round: c.round, Tag: c.tag})
	}
}

func TestP1701Ends(t *testing.T) {
	refusesToOpen(t, 3, 1, 0, having(t, api.Record{Life: api.MaxLife, Round: 1, Tag: 1}, 1), api.ErrEnd)
	refusesToOpen(t, 3, 1, 0, having(t, api.Record{Life: 1, Round: api.MaxRound, Tag: 1}, 1), api.ErrEnd)
	refusesToOpen(t, 3, 1, 0, having(t, api.Record{Life: 1, Round: 1, Tag: 1}, api.MaxNumber), api.ErrEnd)
}

func TestP1702Waiting(t *testing.T) {
	for _, n := range []int{2, 3, 33, api.MaxNodes} {
		for _, self := range []int{0, n / 2, n - 1} {
			d := disk.New()
			x := open(t, n, 0, self, d)
			ask := api.Event{Kind: api.EventAsk, Node: self, Life: 1, Round: 1}
			was := glanceAt(x, d)
			for i := range 3 {
				polls(t, x, api.ErrWaiting, queries(t, n, wire.Query{From: self, Round: 1})...)
				was.past = append(was.past, ask)
				unchanged(t, "Poll", x, d, was)
				since(t, x, 1+i, ask)
			}
		}
	}
}

// A quorum is n - f nodes, itself counted: with one reply less it waits, with the last one it closes.
func TestP1702Quorum(t *testing.T) {
	const n = 6
	for f := range n {
		x := open(t, n, f, 2, disk.New())
		others := []int{5, 0, 4, 1, 3}
		for have := 1; have < n-f; have++ {
			polls(t, x, api.ErrWaiting, queries(t, n, wire.Query{From: 2, Round: 1})...)
			takes(t, n, x, wire.Reply{From: others[have-1], Round: 1, Heard: upTo(n)})
		}
		polls(t, x, api.OK, queries(t, n, wire.Query{From: 2, Round: 2})...)
		heard := of(append([]int{2}, others[:n-f-1]...)...)
		looks(t, x, api.Sight{Up: true, Life: 1, Round: 2, Heard: heard, Repliers: of(2), Book: fresh(n)})
	}
}

// Waiting wants no power: nothing is written.
func TestP1702WaitingWithoutPower(t *testing.T) {
	d := disk.New()
	x := open(t, 3, 1, 0, d)
	d.Cut()
	polls(t, x, api.ErrWaiting, queries(t, 3, wire.Query{From: 0, Round: 1})...)
	if !x.Up() {
		t.Errorf("it is down")
	}
}

func TestP1702NewsRide(t *testing.T) {
	x := open(t, 4, 1, 1, disk.New())
	takes(t, 4, x, wire.Rumor{From: 0, News: []api.Notice{suspicion(0, 3), mistake(2, 0), mistake(3, 9)}})
	polls(t, x, api.ErrWaiting, queries(t, 4, wire.Query{From: 1, Round: 1, News: []api.Notice{suspicion(0, 3), mistake(3, 9)}})...)
	takes(t, 4, x, wire.Rumor{From: 0, News: []api.Notice{suspicion(1, 1)}})
	polls(t, x, api.ErrWaiting, queries(t, 4, wire.Query{From: 1, Round: 1, News: []api.Notice{suspicion(0, 3), mistake(1, 2), mistake(3, 9)}})...)
}

func TestP1702Close(t *testing.T) {
	const n = 7
	x := open(t, n, 4, 3, disk.New())
	// Its own set of the first round is All, so nobody is missing yet.
	ready(t, n, x, map[int]api.Set{1: of(1), 5: of()})
	polls(t, x, api.OK, queries(t, n, wire.Query{From: 3, Round: 2})...)
	past(t, x,
		api.Event{Kind: api.EventBegin, Node: 3, Life: 1, Round: 1},
		api.Event{Kind: api.EventClose, Node: 3, Life: 1, Round: 1, Heard: of(1, 3, 5), Union: upTo(n)},
		api.Event{Kind: api.EventAsk, Node: 3, Life: 1, Round: 2})
	looks(t, x, api.Sight{Up: true, Life: 1, Round: 2, Heard: of(1, 3, 5), Repliers: of(3), Book: fresh(n)})

	// Its own set is that of the last repliers now: 1 and 5 are known by it, 6 by a reply's, 0 and 4 are not.
	takes(t, n, x, wire.Rumor{From: 1, News: []api.Notice{mistake(0, 7), suspicion(4, 2)}})
	ready(t, n, x, map[int]api.Set{2: of(6), 6: of(2)})
	doubt := wire.Query{From: 3, Round: 3, News: []api.Notice{suspicion(0, 7), suspicion(4, 2)}}
	polls(t, x, api.OK, queries(t, n, doubt)...)
	since(t, x, 3,
		api.Event{Kind: api.EventClose, Node: 3, Life: 1, Round: 2, Heard: of(2, 3, 6), Union: of(1, 2, 3, 5, 6)},
		api.Event{Kind: api.EventDoubt, Node: 3, Life: 1, Round: 2, Of: 0, Tag: 7},
		api.Event{Kind: api.EventAsk, Node: 3, Life: 1, Round: 3})
	book := fresh(n)
	book[0], book[4] = suspicion(0, 7), suspicion(4, 2)
	looks(t, x, api.Sight{Up: true, Life: 1, Round: 3, Suspects: of(0, 4), Heard: of(2, 3, 6), Repliers: of(3), Book: book})
}

// Doubts are put down one by one, by rising ids, and are in the book and on the queries when it asks.
func TestP1702Doubts(t *testing.T) {
	const n = api.MaxNodes
	x := open(t, n, n-1, 50, disk.New())
	polls(t, x, api.OK, queries(t, n, wire.Query{From: 50, Round: 2})...)
	var doubts []api.Event
	var news []api.Notice
	book := fresh(n)
	var others []int
	for id := range n {
		if id != 50 {
			doubts = append(doubts, api.Event{Kind: api.EventDoubt, Node: 50, Life: 1, Round: 2, Of: id})
			news = append(news, suspicion(id, 0))
			book[id] = suspicion(id, 0)
			others = append(others, id)
		}
	}
	polls(t, x, api.OK, queries(t, n, wire.Query{From: 50, Round: 3, News: news})...)
	want := append([]api.Event{{Kind: api.EventClose, Node: 50, Life: 1, Round: 2, Heard: of(50), Union: of(50)}}, doubts...)
	since(t, x, 3, append(want, api.Event{Kind: api.EventAsk, Node: 50, Life: 1, Round: 3})...)
	looks(t, x, api.Sight{Up: true, Life: 1, Round: 3, Suspects: of(others...), Heard: of(50), Repliers: of(50), Book: book})
	// Whom it suspects already it does not doubt once more.
	many := len(x.Past())
	polls(t, x, api.OK, queries(t, n, wire.Query{From: 50, Round: 4, News: news})...)
	since(t, x, many,
		api.Event{Kind: api.EventClose, Node: 50, Life: 1, Round: 3, Heard: of(50), Union: of(50)},
		api.Event{Kind: api.EventAsk, Node: 50, Life: 1, Round: 4})
}

func TestP1702Alone(t *testing.T) {
	x := open(t, 1, 0, 0, disk.New())
	want := []api.Event{{Kind: api.EventBegin, Life: 1, Round: 1}}
	for round := 1; round < 40; round++ {
		polls(t, x, api.OK)
		want = append(want, api.Event{Kind: api.EventClose, Life: 1, Round: round, Heard: of(0), Union: of(0)}, api.Event{Kind: api.EventAsk, Life: 1, Round: round + 1})
		looks(t, x, api.Sight{Up: true, Life: 1, Round: round + 1, Heard: of(0), Repliers: of(0), Book: fresh(1)})
	}
	past(t, x, want...)
}

// Without power no round is closed: it halts, whether a write was wanted or not.
func TestP1702Halts(t *testing.T) {
	d := disk.New()
	x := open(t, 1, 0, 0, d)
	polls(t, x, api.OK)
	events := x.Past()
	d.Cut()
	polls(t, x, api.ErrOff)
	ending(t, x, events)
	d.Restore()
	ending(t, x, events)

	for k := range 3 {
		d := disk.New()
		x := open(t, 3, 2, 1, d)
		for range 15 {
			x.Poll()
		}
		events, image := x.Past(), d.Image()
		d.Fuse(k)
		if k < 2 {
			polls(t, x, api.ErrOff)
			ending(t, x, events)
			continue
		}
		if out, e := x.Poll(); len(out) != 2 || e != api.OK || bytes.Equal(image, d.Image()) {
			t.Errorf("with two writes left: %v, error %d", out, e)
		}
	}
}

func TestP1702End(t *testing.T) {
	d := having(t, api.Record{Life: 1, Round: api.MaxRound - 2, Tag: 3}, 1)
	x := open(t, 2, 1, 0, d)
	polls(t, x, api.OK, queries(t, 2, wire.Query{From: 0, Round: api.MaxRound, News: []api.Notice{mistake(0, 3)}})...)
	was := glanceAt(x, d)
	for range 3 {
		polls(t, x, api.ErrEnd)
		unchanged(t, "Poll behind the last round", x, d, was)
	}
	// It is up all the same, and replies.
	takes(t, 2, x, wire.Query{From: 1, Round: 5}, out(t, 2, 1, wire.Reply{From: 0, Round: 5, Heard: of(0), News: []api.Notice{mistake(0, 3)}}))
}

// A disk that takes no further save has another error than one without power: the node stays up.
func TestP1702SaveEnds(t *testing.T) {
	d := having(t, api.Record{Life: 1, Round: 0, Tag: 0}, api.MaxNumber-1)
	x := open(t, 1, 0, 0, d)
	for range 15 {
		polls(t, x, api.OK)
	}
	was := glanceAt(x, d)
	for range 2 {
		polls(t, x, api.ErrEnd)
		unchanged(t, "Poll, the last save being done", x, d, was)
	}
	d.Cut()
	polls(t, x, api.ErrOff)
	ending(t, x, was.past)
}

func TestP1703Errors(t *testing.T) {
	d := disk.New()
	x := open(t, 3, 1, 1, d)
	was := glanceAt(x, d)
	refused := func(b []byte, code api.Errno) {
		t.Helper()
		hears(t, x, b, code)
		unchanged(t, "a refused Hear", x, d, was)
	}
	news := []api.Notice{suspicion(0, 2), suspicion(1, 5)}
	good := data(t, 3, wire.Reply{From: 0, Round: 1, Heard: of(0), News: news})
	refused(nil, api.ErrShort)
	refused([]byte("x"), api.ErrShort)
	refused([]byte("xs"), api.ErrMagic)
	refused([]byte("es\x04"), api.ErrKind)
	refused(data(t, 4, wire.Query{From: 0, Round: 1, News: news}), api.ErrSize)
	refused([]byte("es\x01\x03\x03"), api.ErrFrom)
	refused([]byte("es\x01\x03\x00\x00\x00\x00\x00\x00"), api.ErrRound)
	refused([]byte("es\x02\x03\x00\x00\x00\x00\x00\x01\x08"), api.ErrHeard)
	refused([]byte("es\x03\x03\x00\x04"), api.ErrNews)
	refused(append(slices.Clone(good[:len(good)-1]), good[len(good)-1]^1), api.ErrSum)
	refused(append(slices.Clone(good), 0), api.ErrLong)
	refused(make([]byte, api.MaxData+1), api.ErrLong)
	for _, own := range []wire.Note{
		wire.Query{From: 1, Round: 1, News: news},
		wire.Reply{From: 1, Round: 1, Heard: of(0, 1, 2), News: news},
		wire.Rumor{From: 1, News: news},
	} {
		refused(data(t, 3, own), api.ErrFrom)
	}
	// One whose sum is wrong, too, is told for its sum: Decode comes first.
	spoilt := data(t, 3, wire.Rumor{From: 1, News: news})
	spoilt[len(spoilt)-1] ^= 0x10
	refused(spoilt, api.ErrSum)
}

func TestP1703Query(t *testing.T) {
	const n = 5
	d := disk.New()
	x := open(t, n, 2, 2, d)
	was := glanceAt(x, d)
	for _, from := range []int{0, 1, 3, 4} {
		for _, round := range []int{1, 2, 77, api.MaxRound} {
			takes(t, n, x, wire.Query{From: from, Round: round}, out(t, n, from, wire.Reply{From: 2, Round: round, Heard: upTo(n)}))
		}
	}
	unchanged(t, "queries without news", x, d, was)
	// A reply has whom it heard in the last round that it closed, not who has replied to the open one.
	ready(t, n, x, map[int]api.Set{0: of(0), 4: of(4)})
	takes(t, n, x, wire.Query{From: 1, Round: 9}, out(t, n, 1, wire.Reply{From: 2, Round: 9, Heard: upTo(n)}))
	x.Poll()
	ready(t, n, x, map[int]api.Set{1: of(1)})
	takes(t, n, x, wire.Query{From: 1, Round: 9}, out(t, n, 1, wire.Reply{From: 2, Round: 9, Heard: of(0, 2, 4)}))
}

// The news of a query are in the book, and defended against, ahead of the reply.
func TestP1703NewsThenReply(t *testing.T) {
	x := open(t, 4, 1, 1, disk.New())
	query := wire.Query{From: 3, Round: 6, News: []api.Notice{mistake(0, 2), suspicion(1, 6), suspicion(2, 0)}}
	news := []api.Notice{mistake(0, 2), mistake(1, 7), suspicion(2, 0)}
	takes(t, 4, x, query, out(t, 4, 3, wire.Reply{From: 1, Round: 6, Heard: upTo(4), News: news}))
	since(t, x, 1, api.Event{Kind: api.EventDefend, Node: 1, Life: 1, Tag: 7, Durable: 10})
	looks(t, x, api.Sight{Up: true, Life: 1, Round: 1, Tag: 7, Suspects: of(2), Heard: upTo(4), Repliers: of(1),
		Book: []api.Notice{mistake(0, 2), mistake(1, 7), suspicion(2, 0), mistake(3, 0)}})
	// The same once more changes nothing: its own mistake beats that suspicion by now.
	takes(t, 4, x, query, out(t, 4, 3, wire.Reply{From: 1, Round: 6, Heard: upTo(4), News: news}))
	if many := len(x.Past()); many != 2 {
		t.Errorf("%d events", many)
	}
}

func TestP1703Reply(t *testing.T) {
	const n = 5
	d := disk.New()
	x := open(t, n, 2, 4, d)
	was := glanceAt(x, d)
	takes(t, n, x, wire.Reply{From: 0, Round: 2, Heard: of(0)})
	takes(t, n, x, wire.Reply{From: 0, Round: api.MaxRound, Heard: of(0)})
	unchanged(t, "replies to other rounds", x, d, was)
	replied := func(r wire.Reply, want api.Set) {
		t.Helper()
		takes(t, n, x, r)
		if got := x.Sight().Repliers; got != want {
			t.Errorf("Repliers behind %v: %v, not %v", r, got, want)
		}
	}
	replied(wire.Reply{From: 3, Round: 1, Heard: of(3)}, of(3, 4))
	replied(wire.Reply{From: 3, Round: 1, Heard: of(2)}, of(3, 4))
	replied(wire.Reply{From: 1, Round: 1}, of(1, 3, 4))
	replied(wire.Reply{From: 0, Round: 1, Heard: upTo(n)}, of(1, 3, 4))
	x.Poll()
	replied(wire.Reply{From: 0, Round: 1, Heard: upTo(n)}, of(4))
	// The sets that count are those of the first replies, and none of what was late, or came again.
	replied(wire.Reply{From: 3, Round: 2, Heard: of()}, of(3, 4))
	replied(wire.Reply{From: 3, Round: 2, Heard: of(0, 2)}, of(3, 4))
	replied(wire.Reply{From: 1, Round: 2, Heard: of(1)}, of(1, 3, 4))
	replied(wire.Reply{From: 2, Round: 2, Heard: of(0, 2)}, of(1, 3, 4))
	many := len(x.Past())
	x.Poll()
	since(t, x, many,
		api.Event{Kind: api.EventClose, Node: 4, Life: 1, Round: 2, Heard: of(1, 3, 4), Union: of(1, 3, 4)},
		api.Event{Kind: api.EventDoubt, Node: 4, Life: 1, Round: 2, Of: 0},
		api.Event{Kind: api.EventDoubt, Node: 4, Life: 1, Round: 2, Of: 2},
		api.Event{Kind: api.EventAsk, Node: 4, Life: 1, Round: 3})
}

// A reply and a rumour bring news, too, and nothing is sent for them, whatever they bring.
func TestP1703NewsOfAllKinds(t *testing.T) {
	news := []api.Notice{suspicion(0, 3), mistake(1, 1), suspicion(2, 9)}
	for _, note := range []wire.Note{
		wire.Reply{From: 1, Round: 1, Heard: of(1), News: news},
		wire.Reply{From: 1, Round: 99, Heard: of(1), News: news},
		wire.Rumor{From: 1, News: news},
		wire.Rumor{From: 2, News: news},
	} {
		x := open(t, 3, 1, 0, disk.New())
		takes(t, 3, x, note)
		past(t, x,
			api.Event{Kind: api.EventBegin, Life: 1, Round: 1},
			api.Event{Kind: api.EventDefend, Life: 1, Tag: 4, Durable: 4})
		repliers := of(0)
		if r, is := note.(wire.Reply); is && r.Round == 1 {
			repliers = of(0, 1)
		}
		looks(t, x, api.Sight{Up: true, Life: 1, Round: 1, Tag: 4, Suspects: of(2), Heard: upTo(3), Repliers: repliers,
			Book: []api.Notice{mistake(0, 4), mistake(1, 1), suspicion(2, 9)}})
	}
}

// Nobody else says of a node that it was a mistake.
func TestP1703OwnMistakesArePassedOver(t *testing.T) {
	d := disk.New()
	x := open(t, 3, 1, 0, d)
	was := glanceAt(x, d)
	takes(t, 3, x, wire.Rumor{From: 1, News: []api.Notice{mistake(0, 8)}})
	unchanged(t, "a mistake of its own, told by another", x, d, was)
	takes(t, 3, x, wire.Rumor{From: 1, News: []api.Notice{suspicion(0, 2)}})
	since(t, x, 1, api.Event{Kind: api.EventDefend, Life: 1, Tag: 3, Durable: 4})
}

func TestP1703Defences(t *testing.T) {
	d := disk.New()
	x := open(t, 2, 0, 0, d)
	for _, c := range []struct{ at, tag, durable, writes int }{
		{0, 1, 4, 2}, {0, 1, 4, 2}, {1, 2, 4, 2}, {3, 4, 4, 2}, {4, 5, 8, 4}, {20, 21, 24, 6}, {22, 23, 24, 6},
		{api.MaxTag - 5, api.MaxTag - 4, api.MaxTag - 1, 8}, {api.MaxTag - 1, api.MaxTag, api.MaxTag, 10},
	} {
		takes(t, 2, x, wire.Rumor{From: 1, News: []api.Notice{suspicion(0, c.at)}})
		l := x.Past()
		if got, want := l[len(l)-1], (api.Event{Kind: api.EventDefend, Life: 1, Tag: c.tag, Durable: c.durable}); got != want {
			t.Errorf("suspected at %d: %v, not %v", c.at, got, want)
		}
		if s := x.Sight(); s.Tag != c.tag || s.Book[0] != mistake(0, c.tag) || s.Suspects != of() || d.Writes() != c.writes {
			t.Errorf("suspected at %d: %v, %d writes", c.at, s, d.Writes())
		}
	}
	// At the last tag there is nothing more to say.
	events := x.Past()
	takes(t, 2, x, wire.Rumor{From: 1, News: []api.Notice{suspicion(0, api.MaxTag)}})
	past(t, x, events...)
	if s := x.Sight(); s.Tag != api.MaxTag || s.Book[0] != suspicion(0, api.MaxTag) || s.Suspects != of(0) {
		t.Errorf("suspected at the last tag: %v", s)
	}
	takes(t, 2, x, wire.Query{From: 1, Round: 3}, out(t, 2, 1, wire.Reply{From: 0, Round: 3, Heard: of(0, 1), News: []api.Notice{suspicion(0, api.MaxTag)}}))
}

// halting are notes that a node, 1 of 3 in its round 1, must defend itself against.
func halting(tag int) []wire.Note {
	news := []api.Notice{suspicion(0, 2), suspicion(1, tag)}
	return []wire.Note{
		wire.Query{From: 0, Round: 1, News: news},
		wire.Reply{From: 2, Round: 1, Heard: of(2), News: news},
		wire.Rumor{From: 0, News: news},
	}
}

func TestP1703Halts(t *testing.T) {
	for i := range 3 {
		// Within what is durable nothing is written, but the power must be on.
		d := disk.New()
		x := open(t, 3, 1, 1, d)
		events := x.Past()
		d.Cut()
		hears(t, x, data(t, 3, halting(0)[i]), api.ErrOff)
		ending(t, x, events)

		for k := range 2 {
			d := disk.New()
			x := open(t, 3, 1, 1, d)
			events := x.Past()
			d.Fuse(k)
			hears(t, x, data(t, 3, halting(4)[i]), api.ErrOff)
			ending(t, x, events)
			d.Restore()
			ending(t, x, events)
			past(t, open(t, 3, 1, 1, d), api.Event{Kind: api.EventBegin, Node: 1, Life: 2, Round: 17, Tag: 4})
		}
	}
}

// Without power a node that need not defend itself hears and replies all the same.
func TestP1703HearsWithoutPower(t *testing.T) {
	d := disk.New()
	x := open(t, 3, 1, 1, d)
	d.Cut()
	takes(t, 3, x, wire.Query{From: 0, Round: 4, News: []api.Notice{suspicion(2, 1)}},
		out(t, 3, 0, wire.Reply{From: 1, Round: 4, Heard: upTo(3), News: []api.Notice{suspicion(2, 1)}}))
	takes(t, 3, x, wire.Reply{From: 0, Round: 1})
	looks(t, x, api.Sight{Up: true, Life: 1, Round: 1, Suspects: of(2), Heard: upTo(3), Repliers: of(0, 1),
		Book: []api.Notice{mistake(0, 0), mistake(1, 0), suspicion(2, 1)}})
}

// With any other error of the defence the node stays up, and what was absorbed stays; nothing is sent, no reply is counted.
func TestP1703OtherErrors(t *testing.T) {
	for i := range 3 {
		d := having(t, api.Record{Life: 1, Round: 0, Tag: 0}, api.MaxNumber-1)
		x := open(t, 3, 1, 1, d)
		events := x.Past()
		for range 2 {
			hears(t, x, data(t, 3, halting(9)[i]), api.ErrEnd)
			past(t, x, events...)
			looks(t, x, api.Sight{Up: true, Life: 2, Round: 1, Suspects: of(0, 1), Heard: upTo(3), Repliers: of(1),
				Book: []api.Notice{suspicion(0, 2), suspicion(1, 9), mistake(2, 0)}})
		}
		// It is suspected still, so the next note finds it at the same defence, whatever that brings.
		hears(t, x, data(t, 3, wire.Rumor{From: 0}), api.ErrEnd)
		hears(t, x, data(t, 3, wire.Reply{From: 0, Round: 1}), api.ErrEnd)
		if got := x.Sight().Repliers; got != of(1) {
			t.Errorf("Repliers: %v", got)
		}
		d.Cut()
		hears(t, x, data(t, 3, wire.Rumor{From: 0}), api.ErrOff)
		ending(t, x, events)
	}
}

func TestP1704Halt(t *testing.T) {
	d := disk.New()
	x := open(t, 3, 1, 0, d)
	x.Poll()
	events, image := x.Past(), d.Image()
	x.Halt()
	ending(t, x, events)
	x.Halt()
	ending(t, x, events)
	if !bytes.Equal(image, d.Image()) || !d.On() {
		t.Errorf("Halt has touched the disk")
	}
	// A down one answers ErrDown to what it would refuse otherwise, too.
	hears(t, x, []byte("x"), api.ErrDown)
	hears(t, x, data(t, 3, wire.Query{From: 0, Round: 1}), api.ErrDown)
	// The next life on its disk has nothing to do with it.
	y := open(t, 3, 1, 0, d)
	y.Poll()
	ending(t, x, events)
	looks(t, y, api.Sight{Up: true, Life: 2, Round: 17, Tag: 4, Heard: upTo(3), Repliers: of(0),
		Book: []api.Notice{mistake(0, 4), mistake(1, 0), mistake(2, 0)}})
}

// Whoever has seen the first events of a life may ask for the others alone.
func TestPastFrom(t *testing.T) {
	x := open(t, 1, 0, 0, disk.New())
	x.Poll()
	all := x.Past()
	for k := range len(all) + 1 {
		got := x.PastFrom(k)
		if !slices.Equal(got, all[k:]) {
			t.Errorf("PastFrom(%d): %v, not %v", k, got, all[k:])
		}
		clear(got)
		past(t, x, all...)
	}
	for _, k := range far() {
		if got := x.PastFrom(k); (k < 0 && !slices.Equal(got, all)) || (k > 0 && len(got) != 0) {
			t.Errorf("PastFrom(%d): %v", k, got)
		}
	}
	x.Halt()
	if got := x.PastFrom(1); !slices.Equal(got, all[1:]) {
		t.Errorf("behind a halt: %v", got)
	}
	var none *node.Node
	if got := none.PastFrom(0); len(got) != 0 {
		t.Errorf("of nil: %v", got)
	}
}

func TestP1704NewMemory(t *testing.T) {
	d := disk.New()
	x := open(t, 3, 1, 0, d)
	takes(t, 3, x, wire.Rumor{From: 1, News: []api.Notice{suspicion(2, 1)}})
	want := glanceAt(x, d)
	s, l := x.Sight(), x.Past()
	for i := range s.Book {
		s.Book[i] = suspicion(i, 99)
	}
	for i := range l {
		l[i] = api.Event{Kind: 99}
	}
	_ = append(l[:len(l):cap(l)], api.Event{Kind: 99})
	unchanged(t, "what was answered is turned", x, d, want)

	a, _ := x.Poll()
	b, _ := x.Poll()
	for i := range a[0].Data {
		a[0].Data[i] ^= 255
	}
	_ = append(a[0].Data, 1, 2, 3, 4, 5, 6, 7, 8)
	query := queries(t, 3, wire.Query{From: 0, Round: 1, News: []api.Notice{suspicion(2, 1)}})
	if !sameOut(a[1:], query[1:]) || !sameOut(b, query) {
		t.Errorf("datagrams share memory: %v, %v", a, b)
	}
	polls(t, x, api.ErrWaiting, query...)
}

// What was heard is not kept: turned afterwards it says nothing.
func TestP1703BytesAreNotKept(t *testing.T) {
	x := open(t, 3, 1, 0, disk.New())
	b := data(t, 3, wire.Reply{From: 1, Round: 1, Heard: of(1), News: []api.Notice{suspicion(2, 1)}})
	room := append(make([]byte, 0, 2*len(b)), b...)
	spare := room[len(b):cap(room)]
	for i := range spare {
		spare[i] = 0xA5
	}
	hears(t, x, room, api.OK)
	for _, c := range spare {
		if c != 0xA5 {
			t.Fatalf("the spare room is %x now", spare)
		}
	}
	was := x.Sight()
	for i := range room {
		room[i] = 255
	}
	looks(t, x, was)
}

func TestP1705NilAndZero(t *testing.T) {
	for _, x := range []*node.Node{nil, {}} {
		for range 2 {
			ending(t, x, nil)
			hears(t, x, data(t, 3, wire.Query{From: 0, Round: 1}), api.ErrDown)
			x.Halt()
		}
	}
}

func TestP1706RoundsRiseOneByOne(t *testing.T) {
	const n = 3
	x := open(t, n, 1, 0, disk.New())
	for round := 1; round <= 70; round++ {
		if got := x.Sight().Round; got != round {
			t.Fatalf("the open round is %d, not %d", got, round)
		}
		if _, e := x.Poll(); e != api.ErrWaiting {
			t.Fatalf("Poll: error %d", e)
		}
		for _, other := range []int{round - 1, round + 1} {
			if other > 0 {
				takes(t, n, x, wire.Reply{From: 1, Round: other, Heard: upTo(n)})
			}
		}
		if got := x.Sight().Repliers; got != of(0) {
			t.Fatalf("Repliers of %d: %v", round, got)
		}
		takes(t, n, x, wire.Reply{From: 1, Round: round, Heard: upTo(n)})
		if _, e := x.Poll(); e != api.OK {
			t.Fatalf("Poll: error %d", e)
		}
	}
}

// Where one byte is turned a datagram is refused, and changes nothing (W11); cut short, or with bytes behind it, too.
func TestP1706RefusedChangesNothing(t *testing.T) {
	d := disk.New()
	x := open(t, 3, 1, 1, d)
	was := glanceAt(x, d)
	refused := func(b []byte) {
		t.Helper()
		if got, e := x.Hear(b); e == api.OK || len(got) != 0 {
			t.Errorf("Hear(%x): %v, error %d", b, got, e)
		}
	}
	for _, note := range halting(4) {
		good := data(t, 3, note)
		for i := range good {
			for by := 1; by < 256; by++ {
				bad := slices.Clone(good)
				bad[i] ^= byte(by)
				refused(bad)
			}
			refused(good[:i])
		}
		refused(append(slices.Clone(good), 0))
	}
	unchanged(t, "refused datagrams", x, d, was)
}

// No reply to a round of an earlier life is counted (W8).
func TestP1706EarlierLives(t *testing.T) {
	d := disk.New()
	asked := 0
	for life := 1; life < 30; life++ {
		x := open(t, 2, 0, 0, d)
		s := x.Sight()
		if s.Round <= asked || s.Life != life {
			t.Fatalf("the life %d opens the round %d, though %d was asked", s.Life, s.Round, asked)
		}
		for round := max(1, asked-20); round <= asked; round++ {
			takes(t, 2, x, wire.Reply{From: 1, Round: round, Heard: upTo(2)})
		}
		if got := x.Sight().Repliers; got != of(0) {
			t.Fatalf("a reply to a round of an earlier life is counted: %v", got)
		}
		for range life % 19 {
			ready(t, 2, x, map[int]api.Set{1: of()})
			x.Poll()
		}
		asked = x.Sight().Round
		if life%2 == 0 {
			x.Halt()
		}
	}
}
