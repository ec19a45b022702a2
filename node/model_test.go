package node_test

import (
	"fmt"
	"reflect"
	"slices"
	"testing"

	"earshot/api"
	"earshot/disk"
	"earshot/node"
	"earshot/wire"
)

// dice tells numbers below m that look as if by chance, and are the same each time.
type dice uint64

func (d *dice) below(m int) int {
	*d = *d*6364136223846793005 + 1442695040888963407
	return int(uint64(*d)>>33) % m
}

// order tells 0 to n - 1 in some order.
func (d *dice) order(n int) []int {
	l := make([]int, n)
	for i := range l {
		l[i] = i
		j := d.below(i + 1)
		l[i], l[j] = l[j], l[i]
	}
	return l
}

// set tells a set of some of n nodes.
func (d *dice) set(n int) api.Set {
	var s api.Set
	for id := range n {
		if d.below(3) == 0 {
			s[id/32] |= 1 << (id % 32)
		}
	}
	return s
}

// news tells rising notices of some of n nodes, most at small tags.
func (d *dice) news(n int) []api.Notice {
	var l []api.Notice
	for id := range n {
		if d.below(3) > 0 {
			continue
		}
		tag := d.below(12)
		if d.below(60) == 0 {
			tag = api.MaxTag - d.below(6)
		}
		l = append(l, api.Notice{Of: id, Tag: tag, Kind: api.Mistake + d.below(2)})
	}
	return l
}

// plainNote is a note without the types of the wire.
type plainNote struct {
	kind, from, to, round int
	heard                 api.Set
	news                  []api.Notice
}

// bytes tells the note's datagram, of n nodes.
func (p plainNote) bytes(t testing.TB, n int) []byte {
	t.Helper()
	switch p.kind {
	case api.NoteQuery:
		return data(t, n, wire.Query{From: p.from, Round: p.round, News: p.news})
	case api.NoteReply:
		return data(t, n, wire.Reply{From: p.from, Round: p.round, Heard: p.heard, News: p.news})
	}
	return data(t, n, wire.Rumor{From: p.from, News: p.news})
}

// plain is a node and its disk, told plainly: the first quorum of replies, one notice a node, a save that is two writes.
type plain struct {
	n, f, self int

	on        bool
	fuse, seq int
	stored    api.Record

	up         bool
	round, tag int
	book       []api.Notice
	heard      api.Set
	repliers   []int
	heards     []api.Set
	past       []api.Event
}

func rank(x api.Notice) int { return 2*x.Tag + x.Kind }

func (p *plain) write() bool {
	if p.fuse == 0 {
		p.on, p.fuse = false, -1
		return false
	}
	if p.fuse > 0 {
		p.fuse--
	}
	return true
}

func (p *plain) save(r api.Record) api.Errno {
	switch {
	case !p.on:
		return api.ErrOff
	case p.seq == 1<<40:
		return api.ErrEnd
	case !p.write() || !p.write():
		return api.ErrOff
	}
	p.stored, p.seq = r, p.seq+1
	return api.OK
}

// next moves on to the next round, if the disk has it, or can be made to have it.
func (p *plain) next() api.Errno {
	if !p.on {
		return api.ErrOff
	}
	if p.round == 1<<40-1 {
		return api.ErrEnd
	}
	if p.round == p.stored.Round {
		r := p.stored
		r.Round = min(r.Round+16, 1<<40-1)
		if e := p.save(r); e != api.OK {
			return e
		}
	}
	p.round++
	return api.OK
}

func (p *plain) open() api.Errno {
	if !p.on {
		return api.ErrOff
	}
	old := p.stored
	if old.Life == 1<<30 {
		return api.ErrEnd
	}
	r := api.Record{Life: old.Life + 1, Round: min(old.Round+16, 1<<40-1), Tag: min(old.Tag+4, 1<<20)}
	if e := p.save(r); e != api.OK {
		return e
	}
	p.round, p.tag = old.Round, old.Tag
	if e := p.next(); e != api.OK {
		return e
	}
	p.up, p.past, p.book = true, nil, fresh(p.n)
	p.book[p.self] = mistake(p.self, p.tag)
	p.heard = upTo(p.n)
	p.repliers, p.heards = []int{p.self}, []api.Set{p.heard}
	p.happen(api.Event{Kind: 1, Tag: p.tag, Round: p.round})
	return api.OK
}

func (p *plain) happen(v api.Event) {
	v.Node, v.Life = p.self, p.stored.Life
	p.past = append(p.past, v)
}

func (p *plain) news() []api.Notice {
	var l []api.Notice
	for _, x := range p.book {
		if x.Tag > 0 || x.Kind == api.Suspicion {
			l = append(l, x)
		}
	}
	return l
}

func (p *plain) ask() []plainNote {
	var l []plainNote
	for id := range p.n {
		if id != p.self {
			l = append(l, plainNote{kind: 1, from: p.self, to: id, round: p.round, news: p.news()})
		}
	}
	p.happen(api.Event{Kind: 2, Round: p.round})
	return l
}

func (p *plain) poll() ([]plainNote, api.Errno) {
	if !p.up {
		return nil, api.ErrDown
	}
	if len(p.repliers) < p.n-p.f {
		return p.ask(), api.ErrWaiting
	}
	closed := p.round
	if e := p.next(); e != api.OK {
		p.up = e != api.ErrOff
		return nil, e
	}
	heard := of(p.repliers...)
	union := heard
	for _, s := range p.heards {
		for i := range s {
			union[i] |= s[i]
		}
	}
	p.happen(api.Event{Kind: 3, Round: closed, Heard: heard, Union: union})
	p.heard = heard
	for id, x := range p.book {
		if union[id/32]>>(id%32)&1 == 0 && x.Kind == api.Mistake {
			p.book[id].Kind = api.Suspicion
			p.happen(api.Event{Kind: 4, Of: id, Tag: x.Tag, Round: closed})
		}
	}
	p.repliers, p.heards = []int{p.self}, []api.Set{heard}
	return p.ask(), api.OK
}

// defend raises the tag above that of a suspicion of itself.
func (p *plain) defend() api.Errno {
	own := p.book[p.self]
	if own.Kind == api.Mistake || own.Tag == 1<<20 {
		return api.OK
	}
	if !p.on {
		return api.ErrOff
	}
	tag := own.Tag + 1
	if tag > p.stored.Tag {
		r := p.stored
		r.Tag = min(tag+3, 1<<20)
		if e := p.save(r); e != api.OK {
			return e
		}
	}
	p.tag, p.book[p.self] = tag, mistake(p.self, tag)
	p.happen(api.Event{Kind: 5, Tag: tag, Durable: p.stored.Tag})
	return api.OK
}

func (p *plain) hear(x plainNote) ([]plainNote, api.Errno) {
	if !p.up {
		return nil, api.ErrDown
	}
	if x.from == p.self {
		return nil, api.ErrFrom
	}
	for _, y := range x.news {
		if rank(y) > rank(p.book[y.Of]) && !(y.Of == p.self && y.Kind == api.Mistake) {
			p.book[y.Of] = y
		}
	}
	if e := p.defend(); e != api.OK {
		p.up = e != api.ErrOff
		return nil, e
	}
	if x.kind == api.NoteQuery {
		return []plainNote{{kind: 2, from: p.self, to: x.from, round: x.round, heard: p.heard, news: p.news()}}, api.OK
	}
	counts := x.kind == api.NoteReply && x.round == p.round && len(p.repliers) < p.n-p.f
	if counts && !slices.Contains(p.repliers, x.from) {
		p.repliers, p.heards = append(p.repliers, x.from), append(p.heards, x.heard)
	}
	return nil, api.OK
}

func (p *plain) sight() api.Sight {
	if !p.up {
		return api.Sight{}
	}
	var suspects []int
	for id, x := range p.book {
		if x.Kind == api.Suspicion {
			suspects = append(suspects, id)
		}
	}
	return api.Sight{Up: true, Life: p.stored.Life, Round: p.round, Tag: p.tag, Suspects: of(suspects...), Heard: p.heard, Repliers: of(p.repliers...), Book: p.book}
}

// pair is a node with its disk, and the model of both.
type pair struct {
	x      *node.Node
	d      *disk.Disk
	m      plain
	asked  int // the greatest round that was ever open
	told   int // the greatest tag that it ever told
	before api.Sight
}

func pairOf(t testing.TB, n, f, self int, r api.Record, seq int) *pair {
	p := &pair{d: disk.New(), m: plain{n: n, f: f, self: self, on: true, fuse: -1}}
	if seq > 0 {
		p.d = having(t, r, seq)
		p.m.stored, p.m.seq = r, seq
	}
	p.open(t)
	return p
}

// open holds the start of a life against the model, and that it takes nothing that an earlier one has used (W8).
func (p *pair) open(t testing.TB) {
	t.Helper()
	want := p.m.open()
	x, e := node.Open(p.m.n, p.m.f, p.m.self, p.d)
	if e != want || (x == nil) != (e != api.OK) {
		t.Fatalf("Open: %v, error %d, not error %d", x, e, want)
	}
	p.before = api.Sight{}
	if e != api.OK {
		return
	}
	p.x = x
	if s := x.Sight(); s.Round <= p.asked || s.Tag < p.told {
		t.Fatalf("the life %d begins with the round %d and the tag %d; %d was asked, %d told", s.Life, s.Round, s.Tag, p.asked, p.told)
	}
	p.holds(t, "Open")
}

// holds holds all that is seen of a node and its disk against the model, and that no notice falls (W5).
func (p *pair) holds(t testing.TB, what string) {
	t.Helper()
	s := p.x.Sight()
	if want := p.m.sight(); !reflect.DeepEqual(s, want) {
		t.Fatalf("%s: Sight\n%v, not\n%v", what, s, want)
	}
	if p.x.Up() != p.m.up {
		t.Fatalf("%s: Up %v", what, p.x.Up())
	}
	if got := p.x.Past(); !slices.Equal(got, p.m.past) {
		t.Fatalf("%s: Past\n%v, not\n%v", what, got, p.m.past)
	}
	if p.d.On() != p.m.on || p.d.Left() != p.m.fuse {
		t.Fatalf("%s: the power is %v, the fuse %d, not %v, %d", what, p.d.On(), p.d.Left(), p.m.on, p.m.fuse)
	}
	for id, x := range s.Book {
		if p.before.Up && rank(x) < rank(p.before.Book[id]) {
			t.Fatalf("%s: %v falls to %v", what, p.before.Book[id], x)
		}
	}
	p.before = s
	p.asked, p.told = max(p.asked, s.Round), max(p.told, s.Tag)
}

// sends holds what was sent against the model.
func (p *pair) sends(t testing.TB, what string, got []api.Out, e api.Errno, want []plainNote, code api.Errno) {
	t.Helper()
	var l []api.Out
	for _, x := range want {
		l = append(l, api.Out{To: x.to, Data: x.bytes(t, p.m.n)})
	}
	if e != code || !sameOut(got, l) {
		t.Fatalf("%s: %v, error %d, not %v, error %d", what, got, e, want, code)
	}
	p.holds(t, what)
}

func (p *pair) poll(t testing.TB) []plainNote {
	t.Helper()
	want, code := p.m.poll()
	got, e := p.x.Poll()
	p.sends(t, "Poll", got, e, want, code)
	return want
}

func (p *pair) hear(t testing.TB, x plainNote) []plainNote {
	t.Helper()
	want, code := p.m.hear(x)
	got, e := p.x.Hear(x.bytes(t, p.m.n))
	p.sends(t, fmt.Sprint("Hear ", x), got, e, want, code)
	return want
}

// spoilt holds that a note of which a byte is turned is refused, and changes nothing (W11).
func (p *pair) spoilt(t testing.TB, x plainNote, at, by int) {
	t.Helper()
	b := x.bytes(t, p.m.n)
	b[at%len(b)] ^= byte(by)
	if got, e := p.x.Hear(b); len(got) != 0 || e == api.OK || (e == api.ErrDown) == p.m.up {
		t.Fatalf("Hear of what is spoilt: %v, error %d", got, e)
	}
	p.holds(t, "a spoilt note")
}

// power does something to a node's power, or to its life.
func (p *pair) power(t testing.TB, d *dice) {
	t.Helper()
	switch d.below(6) {
	case 0:
		p.x.Halt()
		p.m.up = false
	case 1:
		p.d.Cut()
		p.m.on = false
	case 2:
		k := d.below(8) - 1
		p.d.Fuse(k)
		p.m.fuse = max(k, -1)
	default:
		p.d.Restore()
		p.m.on = true
		if !p.m.up {
			p.open(t)
		}
	}
	p.holds(t, "power")
}

// world is some nodes, and the notes under way.
type world struct {
	d     dice
	nodes []*pair
	way   []plainNote
}

// step does one thing that may happen.
func (w *world) step(t testing.TB) {
	t.Helper()
	n := len(w.nodes)
	p := w.nodes[w.d.below(n)]
	kind := w.d.below(40)
	switch {
	case kind < 12:
		w.way = append(w.way, p.poll(t)...)
	case kind == 12:
		p.power(t, &w.d)
	case kind == 13:
		x := plainNote{kind: 1 + w.d.below(3), from: w.d.below(n), round: min(max(1, p.m.round+w.d.below(5)-2), api.MaxRound), heard: w.d.set(n), news: w.d.news(n)}
		w.way = append(w.way, p.hear(t, x)...)
	case len(w.way) > 0:
		i := w.d.below(len(w.way))
		x := w.way[i]
		if kind == 14 {
			w.nodes[x.to].spoilt(t, x, w.d.below(1<<20), 1+w.d.below(255))
			return
		}
		if kind > 17 {
			w.way = slices.Delete(w.way, i, i+1)
		}
		if kind > 15 {
			w.way = append(w.way, w.nodes[x.to].hear(t, x)...)
		}
	}
	// What is too much is lost.
	w.way = w.way[max(0, len(w.way)-400):]
}

// walk goes through a world of n nodes, on disks that have this record, by chance.
func walk(t testing.TB, seed, n, f, steps int, r api.Record, seq int) {
	t.Helper()
	w := &world{d: dice(seed)}
	for id := range n {
		w.nodes = append(w.nodes, pairOf(t, n, f, id, r, seq))
	}
	for range steps {
		w.step(t)
	}
}

func TestModel(t *testing.T) {
	for seed := range 150 {
		n := 1 + seed%6
		walk(t, seed, n, seed/6%n, 1000, api.Record{}, 0)
	}
	walk(t, 1, 33, 8, 1500, api.Record{}, 0)
	walk(t, 2, api.MaxNodes, 95, 1500, api.Record{}, 0)
}

// At the ends of rounds, tags, lives and saves.
func TestModelAtTheEnds(t *testing.T) {
	for seed := range 20 {
		n := 1 + seed%4
		walk(t, seed, n, n-1, 600, api.Record{Life: 3, Round: api.MaxRound - 30, Tag: api.MaxTag - 12}, 8)
		walk(t, seed, n, n/2, 600, api.Record{Life: api.MaxLife - 2, Round: 5, Tag: api.MaxTag - 3}, 8)
		walk(t, seed, n, n/2, 600, api.Record{Life: 9, Round: 0, Tag: 0}, api.MaxNumber-4)
	}
}

// exchanged tells a set with its ids exchanged.
func exchanged(s api.Set, to []int) api.Set {
	var out api.Set
	for id, other := range to {
		if s[id/32]>>(id%32)&1 == 1 {
			out[other/32] |= 1 << (other % 32)
		}
	}
	return out
}

// newsExchanged tells notices with their ids exchanged, rising.
func newsExchanged(l []api.Notice, to []int) []api.Notice {
	out := slices.Clone(l)
	for i := range out {
		out[i].Of = to[out[i].Of]
	}
	slices.SortFunc(out, func(x, y api.Notice) int { return x.Of - y.Of })
	return out
}

// With the ids exchanged a node goes alike (W12), but for the order in which it puts down its doubts.
func TestNames(t *testing.T) {
	for seed := range 40 {
		d := dice(seed)
		n := 2 + d.below(40)
		f, self, to := d.below(n), d.below(n), d.order(n)
		a, b := open(t, n, f, self, disk.New()), open(t, n, f, to[self], disk.New())
		for range 150 {
			if d.below(8) == 0 {
				_, e := a.Poll()
				if _, other := b.Poll(); other != e {
					t.Fatalf("Poll: error %d and %d", e, other)
				}
				continue
			}
			x := plainNote{kind: 1 + d.below(3), from: d.below(n), round: a.Sight().Round, heard: d.set(n), news: d.news(n)}
			y := plainNote{kind: x.kind, from: to[x.from], round: x.round, heard: exchanged(x.heard, to), news: newsExchanged(x.news, to)}
			_, e := a.Hear(x.bytes(t, n))
			if _, other := b.Hear(y.bytes(t, n)); other != e {
				t.Fatalf("Hear: error %d and %d", e, other)
			}
		}
		want := a.Sight()
		want.Suspects, want.Heard, want.Repliers = exchanged(want.Suspects, to), exchanged(want.Heard, to), exchanged(want.Repliers, to)
		want.Book = newsExchanged(want.Book, to)
		looks(t, b, want)
		if len(a.Past()) != len(b.Past()) {
			t.Errorf("%d and %d events", len(a.Past()), len(b.Past()))
		}
	}
}

func FuzzHear(f *testing.F) {
	for _, x := range halting(3) {
		f.Add(data(f, 3, x), data(f, 3, x), 3)
	}
	f.Add([]byte("es"), []byte(nil), 0)
	f.Fuzz(func(t *testing.T, first, second []byte, fuse int) {
		p := pairOf(t, 3, 1, 1, api.Record{}, 0)
		p.d.Fuse(fuse)
		p.m.fuse = max(fuse, -1)
		for _, b := range [][]byte{first, second} {
			p.bytes(t, b)
			p.poll(t)
		}
	})
}

// bytes holds a Hear of any bytes against the model; what is a note is package wire's to say.
func (p *pair) bytes(t testing.TB, b []byte) {
	t.Helper()
	note, code := wire.Decode(b, p.m.n)
	if code != api.OK {
		if !p.m.up {
			code = api.ErrDown
		}
		got, e := p.x.Hear(b)
		p.sends(t, "Hear of bytes", got, e, nil, code)
		return
	}
	x := plainNote{kind: note.Kind(), from: note.Sender(), news: note.Notices()}
	switch y := note.(type) {
	case wire.Query:
		x.round = y.Round
	case wire.Reply:
		x.round, x.heard = y.Round, y.Heard
	}
	p.hear(t, x)
}
