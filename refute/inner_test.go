package refute

import (
	"errors"
	"testing"

	"earshot/api"
	"earshot/boot"
	"earshot/disk"
	"earshot/tagbook"
)

// No call from outside can bring a book to refuse a mistake that is due, so the error for it is held here.
func TestP1502BookThatDoesNotTake(t *testing.T) {
	b, _ := tagbook.New(3, 1, 4)
	d := defence{b, 1}
	for _, x := range []api.Notice{
		{Of: 1, Tag: 4, Kind: api.Mistake},
		{Of: 1, Tag: 3, Kind: api.Mistake},
		{Of: 3, Tag: 9, Kind: api.Mistake},
		{Of: 1, Tag: api.MaxTag + 1, Kind: api.Mistake},
	} {
		if err := d.take(x); !errors.Is(err, errNotTaken) {
			t.Errorf("take(%v): %v", x, err)
		}
	}
	x := api.Notice{Of: 1, Tag: 5, Kind: api.Mistake}
	if err := d.take(x); err != nil {
		t.Errorf("take(%v): %v", x, err)
	}
	m, _ := boot.Open(disk.New())
	if e := durably(m, x, d.take); e != api.ErrNotice {
		t.Errorf("durably, of what the book has already: error %d", e)
	}
}

func TestP1502TakesBehindTheRaise(t *testing.T) {
	m, _ := boot.Open(disk.New())
	x := api.Notice{Of: 1, Tag: 3, Kind: api.Mistake}
	was := -1
	e := durably(m, x, func(y api.Notice) error {
		if y != x {
			t.Errorf("%v is taken, not %v", y, x)
		}
		was = m.Tag()
		return nil
	})
	if e != api.OK || was != 3 {
		t.Errorf("error %d; the tag at the take: %d, not 3", e, was)
	}
	e = durably(nil, x, func(api.Notice) error {
		t.Errorf("a mistake is taken, though nothing was raised")
		return nil
	})
	if e != api.ErrArg {
		t.Errorf("without a Boot: error %d", e)
	}
}
