package cluster_test

import (
	"slices"
	"testing"

	"earshot/api"
	"earshot/cluster"
	"earshot/disk"
	"earshot/slot"
)

func has(s api.Set, id int) bool { return s[id/32]>>(id%32)&1 == 1 }

func count(s api.Set) int {
	many := 0
	for id := range 128 {
		if has(s, id) {
			many++
		}
	}
	return many
}

// sights tells what is seen of each node.
func sights(c *cluster.Cluster) []api.Sight { return glanceAt(c).sights }

// record tells the record on a node's disk.
func record(t testing.TB, c *cluster.Cluster, id int) api.Record {
	t.Helper()
	image, _ := c.Disk(id)
	d, e := disk.Of(image)
	if e != api.OK {
		t.Fatalf("the disk of %d has %d bytes", id, len(image))
	}
	r, _, e := slot.Load(d)
	if e != api.OK {
		t.Fatalf("the disk of %d: error %d", id, e)
	}
	return r
}

// W2: Poll waits just as long as too few nodes have had a reply to the open round delivered in this life.
func TestW2Waiting(t *testing.T) {
	for seed := range 80 {
		d := dice(seed)
		n := 2 + d.below(5)
		f := d.below(n)
		c := made(t, n, f)
		replied := map[[3]int]api.Set{} // by node, life and round
		for range 300 {
			s := d.honest(n)
			// What a flush and a turn deliver within is not seen from here.
			if s.Kind == api.StepFlush || s.Kind == api.StepTurn {
				s = deliver(s.A)
			}
			if d.below(12) == 0 {
				s = d.forged(t, n, sights(c)[d.below(n)].Round)
			}
			if s.Kind == api.StepDeliver && len(c.Bag()) > 0 {
				g := c.Bag()[counted(s.A, len(c.Bag()))]
				x, e := noteOf(g.Data, n)
				// A forged one may be of a round to come: that is no reply to what is open.
				if to := sight(t, c, g.To); to.Up && e == api.OK && x.kind == api.NoteReply && x.round == to.Round && x.from != g.To {
					key := [3]int{g.To, to.Life, x.round}
					l := replied[key]
					l[x.from/32] |= 1 << (x.from % 32)
					replied[key] = l
				}
			}
			if s.Kind != api.StepPoll || s.A < 0 || s.A >= n || !sight(t, c, s.A).Up {
				c.Do(s)
				continue
			}
			x := sight(t, c, s.A)
			have := 1 + count(replied[[3]int{s.A, x.Life, x.Round}])
			if a := c.Do(s); (a.Code == api.ErrWaiting) != (have < n-f) {
				t.Fatalf("Poll at %d of %d: error %d, %d have replied of %d", s.A, n, a.Code, have, n-f)
			}
		}
	}
}

// reasons has what W3 and W4 say that a notice must have behind it.
type reasons struct {
	begun, told map[api.Notice]bool
}

// learn takes up the events of a step. The books ahead of it tell at which tags a suspicion may be begun.
func (r reasons) learn(t testing.TB, events []api.Event) {
	t.Helper()
	var closed api.Event
	for _, v := range events {
		switch v.Kind {
		case api.EventClose:
			closed = v
		case api.EventDoubt:
			if v.Node != closed.Node || v.Round != closed.Round || has(closed.Heard, v.Of) || has(closed.Union, v.Of) {
				t.Fatalf("%v has no reason in %v", v, closed)
			}
			if v.Tag > 0 && !r.told[mistake(v.Of, v.Tag)] {
				t.Fatalf("%v is at a tag that nobody has told", v)
			}
			r.begun[suspicion(v.Of, v.Tag)] = true
		case api.EventBegin, api.EventDefend:
			r.told[mistake(v.Node, v.Tag)] = true
		}
	}
}

// holds holds that notices have a reason.
func (r reasons) holds(t testing.TB, c *cluster.Cluster, l []api.Notice) {
	t.Helper()
	for _, x := range l {
		switch {
		case x.Kind == api.Suspicion && !r.begun[x]:
			t.Fatalf("%v was begun by nobody", x)
		case x.Kind == api.Mistake && x.Tag > 0 && !r.told[x]:
			t.Fatalf("%v was told by nobody", x)
		case x.Kind == api.Mistake && record(t, c, x.Of).Tag < x.Tag:
			t.Fatalf("%v is beyond the record %v", x, record(t, c, x.Of))
		}
	}
}

// W3, W4: in an honest script suspicions have a reason, and mistakes are one's own.
func TestW3W4Reasons(t *testing.T) {
	suspicions, mistakes := 0, 0
	for seed := range 60 {
		d := dice(seed)
		n := 2 + d.below(5)
		c := made(t, n, 1+d.below(n-1))
		r := reasons{map[api.Notice]bool{}, map[api.Notice]bool{}}
		r.learn(t, c.History())
		for range 150 {
			a := c.Do(d.honest(n))
			r.learn(t, a.Events)
			for _, s := range sights(c) {
				r.holds(t, c, s.Book)
			}
			for _, g := range c.Bag() {
				x, e := noteOf(g.Data, n)
				if e != api.OK {
					t.Fatalf("%x: error %d", g.Data, e)
				}
				r.holds(t, c, x.news)
			}
		}
		suspicions, mistakes = suspicions+len(r.begun), mistakes+len(r.told)-n
	}
	if suspicions < 500 || mistakes < 500 {
		t.Errorf("these scripts have only %d suspicions, %d mistakes", suspicions, mistakes)
	}
}

// W5: within a life no notice falls.
func TestW5Up(t *testing.T) {
	for seed := range 60 {
		d := dice(seed)
		n := 2 + d.below(5)
		c := made(t, n, 1+d.below(n-1))
		was := sights(c)
		for range 200 {
			s := d.any(n)
			if d.below(15) == 0 {
				s = d.forged(t, n, 1)
			}
			c.Do(s)
			now := sights(c)
			for id, x := range now {
				if !x.Up || x.Life != was[id].Life {
					continue
				}
				for of, y := range x.Book {
					if rank(y) < rank(was[id].Book[of]) {
						t.Fatalf("%v: %v falls to %v", s, was[id].Book[of], y)
					}
				}
			}
			was = now
		}
	}
}

// calm brings a cluster behind steps by chance to where no fuse is left, and just these are up; then comes a flush.
func calm(t testing.TB, d *dice, n, f, steps int, honest bool, up func(id int) bool) *cluster.Cluster {
	t.Helper()
	c := made(t, n, f)
	for range steps {
		s := d.honest(n)
		if !honest {
			s = d.any(n)
		}
		c.Do(s)
	}
	for id := range n {
		c.Do(fuse(id, 1<<40))
		if up(id) {
			c.Do(restart(id))
		} else {
			c.Do(crash(id))
		}
	}
	c.Do(flush(d.number()))
	if len(c.Bag()) != 0 {
		t.Fatalf("behind a flush the bag has %v", c.Bag())
	}
	return c
}

// some tells a set of just so many of n nodes.
func (d *dice) some(n, many int) api.Set {
	var s api.Set
	for count(s) < many {
		id := d.below(n)
		s[id/32] |= 1 << (id % 32)
	}
	return s
}

// W6: behind a flush and three turns the dead are suspected by all that are up, and stay so; no Poll waits.
func TestW6TheDead(t *testing.T) {
	for seed := range 120 {
		d := dice(seed)
		n := 2 + d.below(7)
		f := 1 + d.below(n-1)
		dead := d.some(n, 1+d.below(f))
		c := calm(t, &d, n, f, 60, seed%2 == 0, func(id int) bool { return !has(dead, id) })
		for turn := 1; turn <= 8; turn++ {
			a := c.Do(api.Step{Kind: api.StepTurn, A: d.number()})
			if a.Code != api.OK || len(a.Polls) != n-count(dead) || slices.Max(a.Polls) != api.OK {
				t.Fatalf("the turn %d of %d nodes without %v: %v", turn, n, dead, a)
			}
			for id, x := range sights(c) {
				for of := range n {
					if turn >= 3 && x.Up && has(dead, of) && !has(x.Suspects, of) {
						t.Fatalf("behind the turn %d %d does not suspect %d", turn, id, of)
					}
				}
			}
		}
	}
}

// W7: of whom f + 1 nodes hear in each of their rounds, nobody begins a suspicion from the third turn on, and from the sixth on nobody has one.
func TestW7TheHeard(t *testing.T) {
	held := 0
	for seed := range 200 {
		d := dice(seed)
		n := 2 + d.below(6)
		f := d.below(n)
		dead := d.some(n, d.below(f+1))
		c := calm(t, &d, n, f, 60, true, func(id int) bool { return !has(dead, id) })
		var heard [8]api.Set // by nodes: who was among the repliers of each round
		for id := range n {
			heard[id] = upTo(n)
		}
		var late, last api.Set // of whom a suspicion was begun from the third turn on; who was suspected from the sixth on
		fixed, place := d.below(2) == 0, d.number()
		for turn := 1; turn <= 9; turn++ {
			if !fixed {
				place = d.number()
			}
			a := c.Do(api.Step{Kind: api.StepTurn, A: place})
			for _, v := range a.Events {
				switch {
				case v.Kind == api.EventClose:
					for i := range v.Heard {
						heard[v.Node][i] &= v.Heard[i]
					}
				case v.Kind == api.EventDoubt && turn >= 3:
					late[v.Of/32] |= 1 << (v.Of % 32)
				}
			}
			for _, x := range sights(c) {
				for i := range x.Suspects {
					if turn >= 6 {
						last[i] |= x.Suspects[i]
					}
				}
			}
		}
		for id := range n {
			many := 0
			for q := range n {
				if has(heard[q], id) {
					many++
				}
			}
			if has(dead, id) || many <= f {
				continue
			}
			held++
			if has(late, id) || has(last, id) {
				t.Errorf("seed %d: %d of %d nodes hear %d, %d may fail: late doubts %v, suspected %v", seed, many, n, id, f, late, last)
			}
		}
	}
	if held < 100 {
		t.Errorf("these scripts have only %d that are heard", held)
	}
}

// W8: rounds rise over all lives, and a life's tag is at least each that was told of itself before.
func TestW8NeverTwice(t *testing.T) {
	lives := 0
	for seed := range 60 {
		d := dice(seed)
		n := 1 + d.below(4)
		c := made(t, n, d.below(n))
		for range 400 {
			s := d.any(n)
			switch d.below(12) {
			case 0:
				s = fuse(d.below(n), d.below(5))
			case 1:
				s = restart(d.below(n))
			case 2:
				s = d.forged(t, n, 1)
			}
			c.Do(s)
		}
		asked, told, life := make([]int, n), make([]int, n), make([]int, n)
		for _, v := range c.History() {
			switch v.Kind {
			case api.EventBegin:
				if v.Round <= asked[v.Node] || v.Tag < told[v.Node] || v.Life <= life[v.Node] {
					t.Fatalf("%v; the round %d was asked, the tag %d told, the life %d lived", v, asked[v.Node], told[v.Node], life[v.Node])
				}
				told[v.Node], life[v.Node] = v.Tag, v.Life
				lives++
			case api.EventAsk:
				asked[v.Node] = max(asked[v.Node], v.Round)
			case api.EventDefend:
				told[v.Node] = max(told[v.Node], v.Tag)
			}
		}
	}
	if lives < 500 {
		t.Errorf("these scripts have only %d lives", lives)
	}
}

// W9: a Poll, the delivery of all, a Poll: the second one does not wait.
func TestW9OneRefusal(t *testing.T) {
	for seed := range 150 {
		d := dice(seed)
		n := 1 + d.below(7)
		f := d.below(n)
		dead := d.some(n, d.below(f+1))
		c := made(t, n, f)
		for range 60 {
			c.Do(d.any(n))
		}
		for id := range n {
			c.Do(fuse(id, 1<<40))
			c.Do(restart(id))
			if has(dead, id) {
				c.Do(crash(id))
			}
		}
		for id := range n {
			if has(dead, id) {
				continue
			}
			was := sight(t, c, id).Round
			c.Do(poll(id))
			for len(c.Bag()) > 0 {
				c.Do(deliver(d.number()))
			}
			if a := c.Do(poll(id)); a.Code != api.OK || sight(t, c, id).Round <= was {
				t.Fatalf("the second Poll at %d: error %d, the round %d behind %d", id, a.Code, sight(t, c, id).Round, was)
			}
		}
	}
}

// W11: a datagram of which one byte is turned is refused, and changes nothing.
func TestW11Bytes(t *testing.T) {
	d := dice(5)
	c := calm(t, &d, 4, 2, 60, true, func(id int) bool { return id != 3 })
	for range 4 {
		c.Do(api.Step{Kind: api.StepTurn})
	}
	c.Do(deliver(0))
	c.Do(deliver(0))
	for _, g := range c.Bag() {
		if g.To == 3 {
			continue
		}
		for at := range g.Data {
			was := glanceAt(c)
			does(t, c, forge(g.To, g.Data), api.OK)
			does(t, c, api.Step{Kind: api.StepSpoil, A: -1, B: at, C: 1 + d.below(255)}, api.OK)
			if a := c.Do(deliver(-1)); a.Code == api.OK || len(a.Events) != 0 {
				t.Fatalf("turned at %d: %v", at, a)
			}
			unchanged(t, at, c, was)
		}
	}
}

// P1807: a flush ends, whatever is in the bag, and whichever comes first.
func TestP1807FlushEnds(t *testing.T) {
	for seed := range 40 {
		d := dice(seed)
		n := 1 + d.below(6)
		c := made(t, n, d.below(n))
		for range 80 {
			if d.below(3) == 0 {
				c.Do(d.forged(t, n, 1))
			}
			c.Do(d.any(n))
		}
		s := flush(d.number())
		if a := c.Do(s); a.Code != api.OK || len(a.Polls) != 0 || len(c.Bag()) != 0 || c.Room() != api.MaxBag {
			t.Errorf("%v: %v, the bag has %v", s, a, c.Bag())
		}
	}
}
