package cluster

import (
	"errors"
	"testing"

	"earshot/api"
	"earshot/disk"
	"earshot/slot"
	"earshot/wire"
)

// having is a disk with a record at a seq in its slot 0.
func having(t testing.TB, r api.Record, seq int) *disk.Disk {
	t.Helper()
	b, e := slot.Encode(r, seq)
	if e != api.OK {
		t.Fatalf("Encode(%v, %d): error %d", r, seq, e)
	}
	image := make([]byte, api.Sectors*api.SectorSize)
	copy(image, b)
	d, e := disk.Of(image)
	if e != api.OK {
		t.Fatalf("Of: error %d", e)
	}
	return d
}

// on makes a cluster of n nodes in which the node 0 is down, and its disk has a record that no script comes to.
func on(t testing.TB, n, f int, r api.Record, seq int) *Cluster {
	t.Helper()
	c, e := New(n, f)
	if e != api.OK {
		t.Fatalf("New: error %d", e)
	}
	c.Do(api.Step{Kind: api.StepCrash})
	c.seats[0].disk = having(t, r, seq)
	c.seats[0].disk.Cut()
	return c
}

// code holds a step's code and how many events it tells.
func code(t testing.TB, c *Cluster, s api.Step, want api.Errno, events int) {
	t.Helper()
	if a := c.Do(s); a.Code != want || len(a.Events) != events || len(a.Polls) != 0 {
		t.Errorf("%v: %v, not %d with %d events", s, a, want, events)
	}
}

// Behind what has come to its end no life begins: the power is cut, the node stays down.
func TestP1803RestartEnds(t *testing.T) {
	for _, x := range []struct {
		r   api.Record
		seq int
	}{
		{api.Record{Life: api.MaxLife, Round: 5, Tag: 1}, 3},
		{api.Record{Life: 7, Round: api.MaxRound, Tag: 1}, 3},
		{api.Record{Life: 7, Round: 5, Tag: 1}, api.MaxNumber},
	} {
		c := on(t, 2, 1, x.r, x.seq)
		for range 2 {
			code(t, c, api.Step{Kind: api.StepRestart}, api.ErrEnd, 0)
			if c.seats[0].disk.On() || c.seats[0].node.Up() || c.Up() != (api.Set{2}) {
				t.Errorf("%v: the power is %v, up %v", x, c.seats[0].disk.On(), c.Up())
			}
		}
		code(t, c, api.Step{Kind: api.StepPoll}, api.ErrDown, 0)
	}
}

// A round behind which there is none stays open: Poll tells so, and the node is up.
func TestP1803LastRound(t *testing.T) {
	c := on(t, 2, 1, api.Record{Life: 1, Round: api.MaxRound - 2, Tag: 0}, 1)
	code(t, c, api.Step{Kind: api.StepRestart}, api.OK, 1)
	code(t, c, api.Step{Kind: api.StepPoll}, api.OK, 2)
	for range 2 {
		code(t, c, api.Step{Kind: api.StepPoll}, api.ErrEnd, 0)
	}
	c.Do(api.Step{Kind: api.StepCrash, A: 1})
	if a := c.Do(api.Step{Kind: api.StepTurn}); a.Code != api.OK || len(a.Polls) != 1 || a.Polls[0] != api.ErrEnd || len(a.Events) != 0 {
		t.Errorf("a turn: %v", a)
	}
	if c.Up() != (api.Set{1}) {
		t.Errorf("up %v", c.Up())
	}
}

// A defence that is refused for another reason than the power does not bring the node down.
func TestP1803HearEnds(t *testing.T) {
	c := on(t, 2, 1, api.Record{Life: 1, Round: 16, Tag: 0}, api.MaxNumber-1)
	code(t, c, api.Step{Kind: api.StepRestart}, api.OK, 1)
	b, _ := wire.Rumor{From: 1, News: []api.Notice{{Of: 0, Tag: 99, Kind: api.Suspicion}}}.Bytes(2)
	code(t, c, api.Step{Kind: api.StepForge, Data: b}, api.OK, 0)
	code(t, c, api.Step{Kind: api.StepDeliver}, api.ErrEnd, 0)
	if s, _ := c.Sight(0); !s.Up || s.Suspects != (api.Set{1}) {
		t.Errorf("the node: %v", s)
	}
}

// The power is on just as long as a node is up, and of a life that has ended nothing is kept but the history.
func TestP1803Power(t *testing.T) {
	c, _ := New(2, 1)
	goesDown := func(s api.Step, want api.Errno) {
		t.Helper()
		code(t, c, s, want, 1)
		if c.seats[1] != (seat{disk: c.seats[1].disk}) || c.seats[1].disk.On() {
			t.Errorf("%v: the seat is %v", s, c.seats[1])
		}
		code(t, c, api.Step{Kind: api.StepRestart, A: 1}, api.OK, 1)
		if !c.seats[1].disk.On() || !c.seats[1].node.Up() {
			t.Errorf("behind %v it does not come back", s)
		}
	}
	goesDown(api.Step{Kind: api.StepCrash, A: 1}, api.OK)
	b, _ := wire.Rumor{News: []api.Notice{{Of: 1, Tag: 99, Kind: api.Suspicion}}}.Bytes(2)
	c.Do(api.Step{Kind: api.StepForge, A: 1, Data: b})
	c.Do(api.Step{Kind: api.StepFuse, A: 1})
	goesDown(api.Step{Kind: api.StepDeliver}, api.ErrOff)
}

func TestFault(t *testing.T) {
	for e, halts := range map[api.Errno]bool{api.OK: false, api.ErrOff: true, api.ErrWaiting: false, api.ErrEnd: false, api.ErrDown: false, api.ErrSum: false} {
		if got := errors.Is(fault(e), errHalt); got != halts {
			t.Errorf("%d halts: %v", e, got)
		}
		if errors.Is(fault(e), errors.New("another one")) {
			t.Errorf("%d is taken for another error", e)
		}
	}
	if got := fault(api.ErrOff).Error(); got != "error 100" {
		t.Errorf("the text is %q", got)
	}
}
