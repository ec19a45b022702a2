package node

import (
	"errors"
	"testing"

	"earshot/api"
	"earshot/disk"
	"earshot/wire"
)

// A halt is told apart from what a node outlives, and either has its number.
func TestFailure(t *testing.T) {
	if err := failure(api.OK); err != nil {
		t.Errorf("no failure: %v", err)
	}
	for _, c := range []struct {
		e     api.Errno
		halts bool
		text  string
	}{
		{api.ErrOff, true, "the node halts: error 100"},
		{api.ErrEnd, false, "error 120"},
		{api.ErrArg, false, "error 1"},
		{api.ErrNotice, false, "error 50"},
	} {
		err := failure(c.e)
		var end halt
		if got := errors.As(err, &end); got != c.halts {
			t.Errorf("the failure %d halts: %v", c.e, got)
		}
		var why fault
		if !errors.As(err, &why) || api.Errno(why) != c.e {
			t.Errorf("the failure %d has the number %d", c.e, why)
		}
		if err.Error() != c.text {
			t.Errorf("the failure %d: %q", c.e, err.Error())
		}
	}
}

func TestSettle(t *testing.T) {
	x, _ := Open(3, 1, 0, disk.New())
	for _, e := range []api.Errno{api.OK, api.ErrEnd, api.ErrArg} {
		if got := x.settle(failure(e)); got != e || !x.Up() {
			t.Errorf("settle of %d: %d, up %v", e, got, x.Up())
		}
	}
	if got := x.settle(failure(api.ErrOff)); got != api.ErrOff || x.Up() {
		t.Errorf("settle of ErrOff: %d, up %v", got, x.Up())
	}
}

// No call from outside brings a deed a note of another kind than its own: it does nothing with it.
func TestDeedsOfOtherKinds(t *testing.T) {
	x, _ := Open(3, 1, 0, disk.New())
	notes := []wire.Note{wire.Query{From: 1, Round: 1}, wire.Reply{From: 1, Round: 1}, wire.Rumor{From: 1}}
	for kind, does := range deeds() {
		for _, note := range notes {
			if does == nil || note.Kind() == kind {
				continue
			}
			if out := does(x, note); len(out) != 0 {
				t.Errorf("the deed of the kind %d with %v: %v", kind, note, out)
			}
		}
	}
	if x.tally.Have() != 1 || len(x.past) != 1 {
		t.Errorf("%d have replied, %d events", x.tally.Have(), len(x.past))
	}
}
