package cluster

import (
	"errors"
	"strconv"

	"earshot/api"
	"earshot/disk"
	"earshot/node"
)

// seat is where a node lives: its disk, and its present life. Between two lives it has the disk alone.
type seat struct {
	disk *disk.Disk
	node *node.Node
	life int // the node forgets it as it halts
	told int // how many of the events of this life the history has
}

// errHalt is what goes wrong where a node goes down.
var errHalt = errors.New("the node halts")

// fault is what a node answers, as an error.
type fault api.Errno

// Error tells the number.
func (f fault) Error() string { return "error " + strconv.Itoa(int(f)) }

// Is tells whether it is a kind of another error: for want of power alone a node halts.
func (f fault) Is(other error) bool { return other == errHalt && api.Errno(f) == api.ErrOff }

// outcome is what comes of a Poll or a Hear.
type outcome struct {
	out  []api.Out
	code api.Errno
}

// poll has the node Poll.
func (s *seat) poll() outcome {
	out, e := s.node.Poll()
	return outcome{out, e}
}

// hear has the node Hear a datagram.
func (s *seat) hear(data []byte) outcome {
	out, e := s.node.Hear(data)
	return outcome{out, e}
}

// open begins a life of a node; what node.Open answers.
func (c *Cluster) open(id int) api.Errno {
	d := c.seats[id].disk
	x, e := node.Open(c.Size(), c.faults, id, d)
	if e != api.OK {
		return e
	}
	c.seats[id] = seat{disk: d, node: x, life: x.Life()}
	c.gather(id)
	return api.OK
}

// settle takes up what came of a Poll or a Hear of a node; its answer.
func (c *Cluster) settle(id int, came outcome) api.Errno {
	for _, o := range came.out {
		// What finds no room is lost, and nobody is told.
		c.bag.Send(id, o.To, o.Data)
	}
	c.gather(id)
	if errors.Is(fault(came.code), errHalt) {
		c.fall(id)
	}
	return came.code
}

// gather puts into the history what has happened to a node since the last time.
func (c *Cluster) gather(id int) {
	at := &c.seats[id]
	news := at.node.PastFrom(at.told)
	at.told += len(news)
	c.past = append(c.past, news...)
}

// fall puts down that a node is down, and gives up its life.
func (c *Cluster) fall(id int) {
	at := c.seats[id]
	c.past = append(c.past, api.Event{Kind: api.EventDown, Node: id, Life: at.life})
	c.seats[id] = seat{disk: at.disk}
}
