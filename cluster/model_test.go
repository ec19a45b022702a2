package cluster_test

import (
	"reflect"
	"slices"
	"testing"

	"earshot/api"
	"earshot/cluster"
	"earshot/disk"
	"earshot/slot"
	"earshot/wire"
)

// dice tells numbers below m that look as if by chance, and are the same each time.
type dice uint64

func (d *dice) below(m int) int {
	*d = *d*6364136223846793005 + 1442695040888963407
	return int(uint64(*d)>>33) % m
}

// set tells a set of some of n nodes.
func (d *dice) set(n int) api.Set {
	var s api.Set
	for id := range n {
		if d.below(3) == 0 {
			s[id/32] |= 1 << (id % 32)
		}
	}
	return s
}

// news tells rising notices of some of n nodes, most at small tags.
func (d *dice) news(n int) []api.Notice {
	var l []api.Notice
	for id := range n {
		if d.below(3) > 0 {
			continue
		}
		tag := d.below(12)
		if d.below(60) == 0 {
			tag = api.MaxTag - d.below(6)
		}
		l = append(l, api.Notice{Of: id, Tag: tag, Kind: api.Mistake + d.below(2)})
	}
	return l
}

// plainNote is a note without the types of the wire.
type plainNote struct {
	kind, from, to, round int
	heard                 api.Set
	news                  []api.Notice
}

// bytes tells the note's datagram, of n nodes.
func (p plainNote) bytes(t testing.TB, n int) []byte {
	t.Helper()
	switch p.kind {
	case api.NoteQuery:
		return data(t, n, wire.Query{From: p.from, Round: p.round, News: p.news})
	case api.NoteReply:
		return data(t, n, wire.Reply{From: p.from, Round: p.round, Heard: p.heard, News: p.news})
	}
	return data(t, n, wire.Rumor{From: p.from, News: p.news})
}

// noteOf tells the note that bytes are; what is one is package wire's to say.
func noteOf(b []byte, n int) (plainNote, api.Errno) {
	note, e := wire.Decode(b, n)
	if e != api.OK {
		return plainNote{}, e
	}
	x := plainNote{kind: note.Kind(), from: note.Sender(), news: note.Notices()}
	switch y := note.(type) {
	case wire.Query:
		x.round = y.Round
	case wire.Reply:
		x.round, x.heard = y.Round, y.Heard
	}
	return x, api.OK
}

// plain is a node and its disk, told plainly: the first quorum of replies, one notice a node, a save that is two writes.
type plain struct {
	n, f, self int

	on        bool
	fuse, seq int
	stored    api.Record

	up         bool
	round, tag int
	book       []api.Notice
	heard      api.Set
	repliers   []int
	heards     []api.Set
	past       []api.Event // since it was asked for the last time
}

func rank(x api.Notice) int { return 2*x.Tag + x.Kind }

func (p *plain) write() bool {
	if p.fuse == 0 {
		p.on, p.fuse = false, -1
		return false
	}
	if p.fuse > 0 {
		p.fuse--
	}
	return true
}

func (p *plain) save(r api.Record) api.Errno {
	if !p.on || !p.write() || !p.write() {
		return api.ErrOff
	}
	p.stored, p.seq = r, p.seq+1
	return api.OK
}

// next moves on to the next round, if the disk has it, or can be made to have it.
func (p *plain) next() api.Errno {
	if !p.on {
		return api.ErrOff
	}
	if p.round == p.stored.Round {
		r := p.stored
		r.Round += 16
		if e := p.save(r); e != api.OK {
			return e
		}
	}
	p.round++
	return api.OK
}

func (p *plain) open() api.Errno {
	p.on = true
	old := p.stored
	r := api.Record{Life: old.Life + 1, Round: old.Round + 16, Tag: min(old.Tag+4, 1<<20)}
	if e := p.save(r); e != api.OK {
		p.on = false
		return e
	}
	p.round, p.tag = old.Round+1, old.Tag
	p.up, p.book = true, fresh(p.n)
	p.book[p.self] = mistake(p.self, p.tag)
	p.heard = upTo(p.n)
	p.repliers, p.heards = []int{p.self}, []api.Set{p.heard}
	p.happen(api.Event{Kind: 1, Tag: p.tag, Round: p.round})
	return api.OK
}

func (p *plain) happen(v api.Event) {
	v.Node, v.Life = p.self, p.stored.Life
	p.past = append(p.past, v)
}

func (p *plain) fall() {
	p.up, p.on = false, false
	p.happen(api.Event{Kind: 6})
}

func (p *plain) news() []api.Notice {
	var l []api.Notice
	for _, x := range p.book {
		if x.Tag > 0 || x.Kind == api.Suspicion {
			l = append(l, x)
		}
	}
	return l
}

func (p *plain) ask() []plainNote {
	var l []plainNote
	for id := range p.n {
		if id != p.self {
			l = append(l, plainNote{kind: 1, from: p.self, to: id, round: p.round, news: p.news()})
		}
	}
	p.happen(api.Event{Kind: 2, Round: p.round})
	return l
}

func (p *plain) poll() ([]plainNote, api.Errno) {
	if !p.up {
		return nil, api.ErrDown
	}
	if len(p.repliers) < p.n-p.f {
		return p.ask(), api.ErrWaiting
	}
	closed := p.round
	if e := p.next(); e != api.OK {
		p.fall()
		return nil, e
	}
	heard := of(p.repliers...)
	union := heard
	for _, s := range p.heards {
		for i := range s {
			union[i] |= s[i]
		}
	}
	p.happen(api.Event{Kind: 3, Round: closed, Heard: heard, Union: union})
	p.heard = heard
	for id, x := range p.book {
		if union[id/32]>>(id%32)&1 == 0 && x.Kind == api.Mistake {
			p.book[id].Kind = api.Suspicion
			p.happen(api.Event{Kind: 4, Of: id, Tag: x.Tag, Round: closed})
		}
	}
	p.repliers, p.heards = []int{p.self}, []api.Set{heard}
	return p.ask(), api.OK
}

// defend raises the tag above that of a suspicion of itself.
func (p *plain) defend() api.Errno {
	own := p.book[p.self]
	if own.Kind == api.Mistake || own.Tag == 1<<20 {
		return api.OK
	}
	if !p.on {
		return api.ErrOff
	}
	tag := own.Tag + 1
	if tag > p.stored.Tag {
		r := p.stored
		r.Tag = min(tag+3, 1<<20)
		if e := p.save(r); e != api.OK {
			return e
		}
	}
	p.tag, p.book[p.self] = tag, mistake(p.self, tag)
	p.happen(api.Event{Kind: 5, Tag: tag, Durable: p.stored.Tag})
	return api.OK
}

func (p *plain) hear(b []byte) ([]plainNote, api.Errno) {
	if !p.up {
		return nil, api.ErrDown
	}
	x, e := noteOf(b, p.n)
	if e != api.OK {
		return nil, e
	}
	if x.from == p.self {
		return nil, api.ErrFrom
	}
	for _, y := range x.news {
		if rank(y) > rank(p.book[y.Of]) && !(y.Of == p.self && y.Kind == api.Mistake) {
			p.book[y.Of] = y
		}
	}
	if e := p.defend(); e != api.OK {
		p.fall()
		return nil, e
	}
	if x.kind == api.NoteQuery {
		return []plainNote{{kind: 2, from: p.self, to: x.from, round: x.round, heard: p.heard, news: p.news()}}, api.OK
	}
	counts := x.kind == api.NoteReply && x.round == p.round && len(p.repliers) < p.n-p.f
	if counts && !slices.Contains(p.repliers, x.from) {
		p.repliers, p.heards = append(p.repliers, x.from), append(p.heards, x.heard)
	}
	return nil, api.OK
}

func (p *plain) sight() api.Sight {
	if !p.up {
		return api.Sight{}
	}
	var suspects []int
	for id, x := range p.book {
		if x.Kind == api.Suspicion {
			suspects = append(suspects, id)
		}
	}
	return api.Sight{Up: true, Life: p.stored.Life, Round: p.round, Tag: p.tag, Suspects: of(suspects...), Heard: p.heard, Repliers: of(p.repliers...), Book: p.book}
}

// model is a cluster told plainly: lists of nodes and datagrams.
type model struct {
	t     testing.TB
	n     int
	nodes []*plain
	grams []api.Gram
	last  int
	past  []api.Event
}

func modelOf(t testing.TB, n, f int) *model {
	m := &model{t: t, n: n}
	for id := range n {
		p := &plain{n: n, f: f, self: id, fuse: -1}
		p.open()
		m.nodes = append(m.nodes, p)
		m.gather(p)
	}
	return m
}

func (m *model) gather(p *plain) {
	m.past = append(m.past, p.past...)
	p.past = nil
}

func (m *model) send(from, to int, b []byte) api.Errno {
	if len(m.grams) == 65536 {
		return api.ErrFull
	}
	m.last++
	m.grams = append(m.grams, api.Gram{Id: m.last, From: from, To: to, Data: slices.Clone(b)})
	return api.OK
}

// settle takes up what came of a Poll or a Hear.
func (m *model) settle(p *plain, out []plainNote, e api.Errno) api.Errno {
	for _, x := range out {
		m.send(p.self, x.to, x.bytes(m.t, m.n))
	}
	m.gather(p)
	return e
}

func (m *model) poll(p *plain) api.Errno {
	out, e := p.poll()
	return m.settle(p, out, e)
}

func (m *model) deliver(a int) api.Errno {
	g := m.take(a)
	p := m.nodes[g.To]
	out, e := p.hear(g.Data)
	return m.settle(p, out, e)
}

func counted(v, m int) int { return ((v % m) + m) % m }

func (m *model) take(a int) api.Gram {
	i := counted(a, len(m.grams))
	g := m.grams[i]
	m.grams = slices.Delete(m.grams, i, i+1)
	return g
}

func (m *model) flush(a int) {
	for len(m.grams) > 0 {
		m.deliver(a)
	}
}

func (m *model) row() []api.Errno {
	var l []api.Errno
	for _, p := range m.nodes {
		if p.up {
			l = append(l, m.poll(p))
		}
	}
	return l
}

// do tells what a step answers.
func (m *model) do(s api.Step) api.Answer {
	ahead := len(m.past)
	var a api.Answer
	switch s.Kind {
	case 1, 7, 8, 9, 10:
		a.Code = m.ofNode(s)
	case 2, 3, 4, 5, 6:
		a.Code = m.ofGram(s)
	case 11:
		m.flush(s.A)
	case 12:
		m.row()
		m.flush(s.A)
		a.Polls = m.row()
	default:
		a.Code = api.ErrStep
	}
	a.Events = m.past[ahead:]
	return a
}

// ofNode does a step whose A is a node.
func (m *model) ofNode(s api.Step) api.Errno {
	if s.A < 0 || s.A >= m.n {
		return api.ErrId
	}
	p := m.nodes[s.A]
	switch s.Kind {
	case 1:
		return m.poll(p)
	case 7:
		if len(s.Data) > 1024 {
			return api.ErrLong
		}
		return m.send(-1, s.A, s.Data)
	case 8:
		if !p.up {
			return api.ErrDown
		}
		p.fall()
	case 9:
		if s.B < 0 {
			return api.ErrArg
		}
		p.fuse = s.B
	default:
		if p.up {
			return api.ErrUp
		}
		if e := p.open(); e != api.OK {
			return e
		}
	}
	m.gather(p)
	return api.OK
}

// ofGram does a step whose A is a datagram.
func (m *model) ofGram(s api.Step) api.Errno {
	if len(m.grams) == 0 {
		return api.ErrGram
	}
	g := &m.grams[counted(s.A, len(m.grams))]
	switch s.Kind {
	case 2:
		return m.deliver(s.A)
	case 3:
		m.take(s.A)
	case 4:
		return m.send(g.From, g.To, g.Data)
	case 5:
		to := counted(s.B, len(m.grams))
		m.grams = slices.Insert(m.grams, to, m.take(s.A))
	default:
		if s.C < 1 || s.C > 255 || len(g.Data) == 0 {
			return api.ErrArg
		}
		g.Data[counted(s.B, len(g.Data))] ^= byte(s.C)
	}
	return api.OK
}

// sameAnswer tells whether two answers are alike; lists that are nil and empty are one.
func sameAnswer(a, b api.Answer) bool {
	return a.Code == b.Code && slices.Equal(a.Polls, b.Polls) && slices.Equal(a.Events, b.Events)
}

// both is a cluster beside its model.
type both struct {
	c *cluster.Cluster
	m *model
}

func bothOf(t testing.TB, n, f int) both {
	t.Helper()
	b := both{made(t, n, f), modelOf(t, n, f)}
	b.holds(t, "New")
	return b
}

// do holds the answer of a step, and all that is seen behind it, against the model.
func (b both) do(t testing.TB, s api.Step) api.Answer {
	t.Helper()
	want := b.m.do(s)
	got := b.c.Do(s)
	if !sameAnswer(got, want) {
		t.Fatalf("%v:\n%v, not\n%v", s, got, want)
	}
	b.holds(t, s)
	return got
}

func (b both) holds(t testing.TB, what any) {
	t.Helper()
	for id, p := range b.m.nodes {
		if got, e := b.c.Sight(id); e != api.OK || !reflect.DeepEqual(got, p.sight()) {
			t.Fatalf("%v: Sight(%d)\n%v, error %d, not\n%v", what, id, got, e, p.sight())
		}
		if k, e := b.c.Left(id); e != api.OK || k != p.fuse {
			t.Fatalf("%v: Left(%d): %d, error %d, not %d", what, id, k, e, p.fuse)
		}
		b.stored(t, what, p)
	}
	if got := b.c.Up(); got != b.m.up() {
		t.Fatalf("%v: Up %v, not %v", what, got, b.m.up())
	}
	if got := b.c.Bag(); !sameGrams(got, b.m.grams) {
		t.Fatalf("%v: Bag\n%v, not\n%v", what, got, b.m.grams)
	}
	if got := b.c.Room(); got != 65536-len(b.m.grams) {
		t.Fatalf("%v: Room %d with %d datagrams", what, got, len(b.m.grams))
	}
}

// stored holds what the disk of a node has.
func (b both) stored(t testing.TB, what any, p *plain) {
	t.Helper()
	image, e := b.c.Disk(p.self)
	if e != api.OK {
		t.Fatalf("%v: Disk(%d): error %d", what, p.self, e)
	}
	d, e := disk.Of(image)
	if e != api.OK {
		t.Fatalf("%v: Disk(%d) has %d bytes", what, p.self, len(image))
	}
	if r, seq, e := slot.Load(d); e != api.OK || r != p.stored || seq != p.seq {
		t.Fatalf("%v: the disk of %d has %v at %d, error %d, not %v at %d", what, p.self, r, seq, e, p.stored, p.seq)
	}
}

// end holds what is the same behind many steps.
func (b both) end(t testing.TB, f int) {
	t.Helper()
	if b.c.Size() != b.m.n || b.c.Faults() != f {
		t.Errorf("%d nodes, %d faults", b.c.Size(), b.c.Faults())
	}
	if got := b.c.History(); !slices.Equal(got, b.m.past) {
		t.Errorf("History\n%v, not\n%v", got, b.m.past)
	}
}

func (m *model) up() api.Set {
	var up []int
	for id, p := range m.nodes {
		if p.up {
			up = append(up, id)
		}
	}
	return of(up...)
}

func sameGrams(a, b []api.Gram) bool {
	return slices.EqualFunc(a, b, func(x, y api.Gram) bool {
		return x.Id == y.Id && x.From == y.From && x.To == y.To && slices.Equal(x.Data, y.Data)
	})
}

// number tells a number that may count round: near 0, or far off.
func (d *dice) number() int {
	if d.below(10) == 0 {
		return far()[d.below(len(far()))]
	}
	return d.below(40) - 20
}

// id tells a node of n, or now and then what is none.
func (d *dice) id(n int) int {
	if d.below(20) == 0 {
		return d.number()
	}
	return d.below(n)
}

// honest tells a step by chance that neither forges nor spoils.
func (d *dice) honest(n int) api.Step {
	k := d.below(100)
	switch {
	case k < 30:
		return api.Step{Kind: api.StepPoll, A: d.id(n)}
	case k < 66:
		return api.Step{Kind: api.StepDeliver, A: d.number()}
	case k < 76:
		return api.Step{Kind: api.StepDrop + d.below(3), A: d.number(), B: d.number()}
	case k < 79:
		return api.Step{Kind: api.StepCrash, A: d.id(n)}
	case k < 83:
		return api.Step{Kind: api.StepFuse, A: d.id(n), B: d.below(9) - 1}
	case k < 90:
		return api.Step{Kind: api.StepRestart, A: d.id(n)}
	case k < 93:
		return api.Step{Kind: api.StepFlush, A: d.number()}
	}
	return api.Step{Kind: api.StepTurn, A: d.number()}
}

// any tells a step by chance; now and then one that has more than it needs, or is none.
func (d *dice) any(n int) api.Step {
	k := d.below(40)
	switch {
	case k < 3:
		return api.Step{Kind: api.StepSpoil, A: d.number(), B: d.number(), C: d.below(300) - 20}
	case k == 3:
		return api.Step{Kind: api.StepForge, A: d.id(n), Data: make([]byte, d.below(3)*d.below(600))}
	case k == 4:
		return api.Step{Kind: d.number(), A: d.number(), B: d.number(), C: d.number(), Data: []byte("x")}
	}
	return d.honest(n)
}

// forged tells a step that forges a note to a node, most of its open round.
func (d *dice) forged(t testing.TB, n, round int) api.Step {
	x := plainNote{kind: 1 + d.below(3), from: d.below(n), round: max(1, round+d.below(3)-1), heard: d.set(n), news: d.news(n)}
	return api.Step{Kind: api.StepForge, A: d.below(n), Data: x.bytes(t, n)}
}

// walk goes through steps by chance; W1.
func walk(t testing.TB, seed, n, f, steps int) {
	t.Helper()
	d := dice(seed)
	b := bothOf(t, n, f)
	for range steps {
		s := d.any(n)
		if d.below(25) == 0 {
			s = d.forged(t, n, b.m.nodes[d.below(n)].round)
		}
		b.do(t, s)
	}
	b.end(t, f)
}

func TestModel(t *testing.T) {
	for seed := range 160 {
		n := 1 + seed%6
		walk(t, seed, n, seed/6%n, 250)
	}
	walk(t, 1, 33, 8, 60)
	walk(t, 2, api.MaxNodes, 95, 15)
}

// Bytes tell steps: what a script may do, whatever it is, goes as in the model.
func FuzzSteps(f *testing.F) {
	f.Add([]byte("\x01\x00\x00\x02\x00\x00\x02\xff\x00\x01\x00\x00\x08\x02\x00\x0c\x00\x00\x0c\x00\x00\x0c\x00\x00\x0a\x02\x00"), 3, 1)
	f.Add([]byte("\x09\x01\x01\x08\x01\x00\x0a\x01\x00\x0a\x01\x00\x0c\x07\x00\x06\x01\x09\x04\x00\x00\x05\x01\x02"), 2, 0)
	f.Fuzz(func(t *testing.T, l []byte, n, faults int) {
		n = 1 + counted(n, 5)
		faults = counted(faults, n)
		b := bothOf(t, n, faults)
		for i := 0; i+2 < len(l) && i < 300; i += 3 {
			s := api.Step{Kind: int(l[i]) % 14, A: int(int8(l[i+1])), B: int(int8(l[i+2])), C: int(l[i+2])}
			s.Data = l[i:min(len(l), i+int(l[i+2]))]
			b.do(t, s)
		}
		b.end(t, faults)
	})
}
