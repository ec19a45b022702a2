package cluster

import (
	"sync"

	"earshot/api"
)

// nobody is the sender of what is forged.
const nobody = -1

// deed does a step; it tells the step's answer, but for its events.
type deed func(c *Cluster, s api.Step) api.Answer

// deeds tells by the kind of a step what it does.
func deeds() map[int]deed {
	return map[int]deed{
		api.StepPoll:    (*Cluster).poll,
		api.StepDeliver: (*Cluster).deliver,
		api.StepDrop:    (*Cluster).drop,
		api.StepDouble:  (*Cluster).double,
		api.StepMove:    (*Cluster).move,
		api.StepSpoil:   (*Cluster).spoil,
		api.StepForge:   (*Cluster).forge,
		api.StepCrash:   (*Cluster).crash,
		api.StepFuse:    (*Cluster).fuse,
		api.StepRestart: (*Cluster).restart,
		api.StepFlush:   (*Cluster).flush,
		api.StepTurn:    (*Cluster).turn,
	}
}

// answer tells an answer that has nothing but its code.
func answer(e api.Errno) api.Answer { return api.Answer{Code: e} }

func (c *Cluster) poll(s api.Step) api.Answer {
	at, e := c.runs(s.A)
	if e != api.OK {
		return answer(e)
	}
	return answer(c.settle(s.A, at.poll()))
}

func (c *Cluster) deliver(s api.Step) api.Answer {
	g, e := c.bag.Take(c.place(s.A))
	if e != api.OK {
		return answer(e)
	}
	at, e := c.runs(g.To)
	if e != api.OK {
		return answer(e)
	}
	return answer(c.settle(g.To, at.hear(g.Data)))
}

func (c *Cluster) drop(s api.Step) api.Answer {
	_, e := c.bag.Take(c.place(s.A))
	return answer(e)
}

func (c *Cluster) double(s api.Step) api.Answer {
	_, e := c.bag.Double(c.place(s.A))
	return answer(e)
}

func (c *Cluster) move(s api.Step) api.Answer {
	return answer(c.bag.Move(c.place(s.A), c.place(s.B)))
}

func (c *Cluster) spoil(s api.Step) api.Answer {
	return answer(c.bag.Spoil(c.place(s.A), s.B, s.C))
}

func (c *Cluster) forge(s api.Step) api.Answer {
	_, e := c.seat(s.A)
	if e == api.OK {
		_, e = c.bag.Send(nobody, s.A, s.Data)
	}
	return answer(e)
}

func (c *Cluster) crash(s api.Step) api.Answer {
	at, e := c.runs(s.A)
	if e == api.OK {
		at.disk.Cut()
		c.fall(s.A)
	}
	return answer(e)
}

func (c *Cluster) fuse(s api.Step) api.Answer {
	at, e := c.seat(s.A)
	if e == api.OK && s.B < 0 {
		// A disk would take it for none.
		e = api.ErrArg
	}
	if e == api.OK {
		at.disk.Fuse(s.B)
	}
	return answer(e)
}

func (c *Cluster) restart(s api.Step) api.Answer {
	at, e := c.seat(s.A)
	switch {
	case e != api.OK:
		return answer(e)
	case at.node.Up():
		return answer(api.ErrUp)
	}
	at.disk.Restore()
	e = c.open(s.A)
	if e != api.OK {
		at.disk.Cut()
	}
	return answer(e)
}

// flush ends: what is delivered is out, and a reply, which is all that may come of it, brings nothing in return.
func (c *Cluster) flush(s api.Step) api.Answer {
	for c.bag.Len() > 0 {
		c.deliver(s)
	}
	return answer(api.OK)
}

func (c *Cluster) turn(s api.Step) api.Answer {
	c.row()
	c.flush(s)
	return api.Answer{Polls: c.row()}
}

// row has each node Poll that is up; their answers, by rising ids.
func (c *Cluster) row() []api.Errno {
	came := c.pollAll()
	var codes []api.Errno
	for id := range c.Size() {
		// Poll tells ErrDown of a node alone that was down ahead of it.
		if came[id].code != api.ErrDown {
			codes = append(codes, c.settle(id, came[id]))
		}
	}
	return codes
}

// pollAll has all nodes Poll at one time: none of them touches what another one has, nor the bag. What they send waits for its turn.
func (c *Cluster) pollAll() []outcome {
	came := make([]outcome, c.Size())
	var all sync.WaitGroup
	for id := range c.Size() {
		all.Add(1)
		go func() {
			defer all.Done()
			came[id] = c.seats[id].poll()
		}()
	}
	all.Wait()
	return came
}

// place counts a number round among the datagrams; without any there is no place, and what it tells is none.
func (c *Cluster) place(v int) int {
	m := c.bag.Len()
	if m == 0 {
		return 0
	}
	return (v%m + m) % m
}
