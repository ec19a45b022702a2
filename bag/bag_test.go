package bag_test

import (
	"bytes"
	"math"
	"slices"
	"strings"
	"testing"

	"earshot/api"
	"earshot/bag"
)

func gram(id, from, to int, data string) api.Gram {
	return api.Gram{Id: id, From: from, To: to, Data: []byte(data)}
}

func same(x, y api.Gram) bool {
	return x.Id == y.Id && x.From == y.From && x.To == y.To && bytes.Equal(x.Data, y.Data)
}

// must makes a bag of a room that is known to be right.
func must(t testing.TB, room int) *bag.Bag {
	t.Helper()
	b, e := bag.New(room)
	if e != api.OK || b == nil {
		t.Fatalf("New(%d): %v, error %d", room, b, e)
	}
	return b
}

// filled makes a bag with a datagram for each text: From 0, 1, .., To 10, 11, ..
func filled(t testing.TB, room int, texts ...string) *bag.Bag {
	t.Helper()
	b := must(t, room)
	for i, text := range texts {
		if id, e := b.Send(i, 10+i, []byte(text)); id != i+1 || e != api.OK {
			t.Fatalf("Send(%d, %d, %q): %d, error %d", i, 10+i, text, id, e)
		}
	}
	return b
}

// has holds all that a bag tells against the datagrams that it should have.
func has(t testing.TB, what string, b *bag.Bag, room int, want ...api.Gram) {
	t.Helper()
	if got := b.Len(); got != len(want) {
		t.Fatalf("%s: Len: %d, not %d", what, got, len(want))
	}
	if got := b.Room(); got != room-len(want) {
		t.Errorf("%s: Room: %d, not %d", what, got, room-len(want))
	}
	for i, g := range want {
		if got, e := b.At(i); !same(got, g) || e != api.OK {
			t.Errorf("%s: At(%d): %v, error %d, not %v", what, i, got, e, g)
		}
	}
	next := 0
	for i, got := range b.All() {
		if i != next || i >= len(want) || !same(got, want[i]) {
			t.Fatalf("%s: All: %v at %d, which is not the one at %d of %v", what, got, i, next, want)
		}
		next++
	}
	if next != len(want) {
		t.Errorf("%s: All has gone through %d, not %d", what, next, len(want))
	}
}

// none are numbers that are no places among m things.
func none(m int) []int {
	return []int{-1, m, m + 1, -m - 1, math.MinInt, math.MaxInt, math.MinInt32, math.MaxInt32, 1 << 32, -1 << 32}
}

// refused holds that a step answers an error, nothing beside it, and leaves the bag alone.
func refused(t *testing.T, what string, got int, e, want api.Errno, b *bag.Bag, room int, left ...api.Gram) {
	t.Helper()
	if got != 0 || e != want {
		t.Errorf("%s: %d, error %d, not error %d", what, got, e, want)
	}
	has(t, what, b, room, left...)
}

func TestExamples(t *testing.T) {
	for _, room := range []int{-1, 65537} {
		if b, e := bag.New(room); b != nil || e != api.ErrArg {
			t.Errorf("New(%d): %v, error %d", room, b, e)
		}
	}
	b := must(t, 3)
	if id, e := b.Send(0, 1, []byte("x")); id != 1 || e != api.OK {
		t.Errorf("Send(0, 1, x): %d, error %d", id, e)
	}
	if id, e := b.Send(1, 0, []byte("yz")); id != 2 || e != api.OK {
		t.Errorf("Send(1, 0, yz): %d, error %d", id, e)
	}
	if id, e := b.Double(0); id != 3 || e != api.OK {
		t.Errorf("Double(0): %d, error %d", id, e)
	}
	if id, e := b.Send(5, -7, nil); id != 0 || e != api.ErrFull {
		t.Errorf("Send(5, -7, nothing): %d, error %d", id, e)
	}
	has(t, "full", b, 3, gram(1, 0, 1, "x"), gram(2, 1, 0, "yz"), gram(3, 0, 1, "x"))
	if g, e := b.At(3); !same(g, api.Gram{}) || e != api.ErrGram {
		t.Errorf("At(3): %v, error %d", g, e)
	}
	if e := b.Move(2, 0); e != api.OK {
		t.Errorf("Move(2, 0): error %d", e)
	}
	has(t, "moved", b, 3, gram(3, 0, 1, "x"), gram(1, 0, 1, "x"), gram(2, 1, 0, "yz"))
	if e := b.Spoil(2, 3, 1); e != api.OK {
		t.Errorf("Spoil(2, 3, 1): error %d", e)
	}
	if e := b.Spoil(0, 0, 0); e != api.ErrArg {
		t.Errorf("Spoil(0, 0, 0): error %d", e)
	}
	has(t, "spoilt", b, 3, gram(3, 0, 1, "x"), gram(1, 0, 1, "x"), gram(2, 1, 0, "y{"))
	if g, e := b.Take(1); !same(g, gram(1, 0, 1, "x")) || e != api.OK {
		t.Errorf("Take(1): %v, error %d", g, e)
	}
	has(t, "taken", b, 3, gram(3, 0, 1, "x"), gram(2, 1, 0, "y{"))
}

func TestP901New(t *testing.T) {
	for _, room := range []int{-1, -2, 65537, 65538, math.MinInt, math.MaxInt, -65536, 1 << 32, 1<<32 + 1} {
		if b, e := bag.New(room); b != nil || e != api.ErrArg {
			t.Errorf("New(%d): %v, error %d", room, b, e)
		}
	}
	for _, room := range []int{0, 1, 2, 1000, 65535, 65536} {
		has(t, "new", must(t, room), room)
	}
}

func TestP901LenAndRoom(t *testing.T) {
	b := must(t, 5)
	for n := range 5 {
		if b.Len() != n || b.Room() != 5-n {
			t.Errorf("behind %d of Send: Len %d, Room %d", n, b.Len(), b.Room())
		}
		b.Send(0, 0, nil)
	}
	b.Send(0, 0, nil)
	for n := 5; n >= 0; n-- {
		if b.Len() != n || b.Room() != 5-n {
			t.Errorf("%d are left: Len %d, Room %d", n, b.Len(), b.Room())
		}
		b.Take(0)
	}
	b.Take(0)
	has(t, "empty again", b, 5)
}

func TestP901TheGreatestRoom(t *testing.T) {
	b := must(t, api.MaxBag)
	for n := range api.MaxBag {
		if id, e := b.Send(n, -n, nil); id != n+1 || e != api.OK {
			t.Fatalf("Send number %d: %d, error %d", n, id, e)
		}
	}
	if id, e := b.Send(0, 0, nil); id != 0 || e != api.ErrFull {
		t.Errorf("Send into a full bag: %d, error %d", id, e)
	}
	if id, e := b.Double(7); id != 0 || e != api.ErrFull {
		t.Errorf("Double in a full bag: %d, error %d", id, e)
	}
	for n := range api.MaxBag {
		if g, e := b.Take(0); !same(g, gram(n+1, n, -n, "")) || e != api.OK {
			t.Fatalf("Take number %d: %v, error %d", n, g, e)
		}
	}
	has(t, "taken", b, api.MaxBag)
}

func TestP901ZeroBagTakesNone(t *testing.T) {
	for _, b := range []*bag.Bag{{}, must(t, 0)} {
		id, e := b.Send(1, 2, []byte("x"))
		refused(t, "Send", id, e, api.ErrFull, b, 0)
		id, e = b.Send(1, 2, make([]byte, 1025))
		refused(t, "Send of too much", id, e, api.ErrLong, b, 0)
		id, e = b.Double(0)
		refused(t, "Double", id, e, api.ErrGram, b, 0)
		g, e := b.At(0)
		refused(t, "At", g.Id, e, api.ErrGram, b, 0)
		g, e = b.Take(0)
		refused(t, "Take", g.Id, e, api.ErrGram, b, 0)
		refused(t, "Move", 0, b.Move(0, 0), api.ErrGram, b, 0)
		refused(t, "Spoil", 0, b.Spoil(0, 0, 1), api.ErrGram, b, 0)
	}
}

// Rule 8: to a nil bag nothing happens.
func TestNilBag(t *testing.T) {
	var b *bag.Bag
	id, e := b.Send(0, 0, nil)
	refused(t, "Send", id, e, api.ErrArg, b, 0)
	id, e = b.Send(0, 0, make([]byte, 1025))
	refused(t, "Send of too much", id, e, api.ErrArg, b, 0)
	for _, i := range []int{0, 1, -1, math.MinInt, math.MaxInt} {
		g, e := b.At(i)
		refused(t, "At", g.Id, e, api.ErrArg, b, 0)
		g, e = b.Take(i)
		refused(t, "Take", g.Id, e, api.ErrArg, b, 0)
		id, e = b.Double(i)
		refused(t, "Double", id, e, api.ErrArg, b, 0)
		refused(t, "Move", 0, b.Move(i, 0), api.ErrArg, b, 0)
		refused(t, "Move", 0, b.Move(0, i), api.ErrArg, b, 0)
		refused(t, "Spoil", 0, b.Spoil(i, 0, 1), api.ErrArg, b, 0)
	}
}

func TestP902Send(t *testing.T) {
	numbers := []int{0, 1, -1, 99, 100, math.MinInt, math.MaxInt, 1 << 32}
	texts := []string{"", "x", "\x00\xff", "漢字", strings.Repeat("\xa5", 1023), strings.Repeat("q", 1024)}
	b := must(t, 1000)
	var want []api.Gram
	for _, from := range numbers {
		for _, to := range numbers {
			text := texts[len(want)%len(texts)]
			id, e := b.Send(from, to, []byte(text))
			want = append(want, gram(len(want)+1, from, to, text))
			if id != len(want) || e != api.OK {
				t.Errorf("Send(%d, %d, %d bytes): %d, error %d, not %d", from, to, len(text), id, e, len(want))
			}
		}
	}
	has(t, "sent", b, 1000, want...)
}

func TestP902Refused(t *testing.T) {
	b := filled(t, 2, "a")
	for _, n := range []int{1025, 1026, 2048, 65536} {
		id, e := b.Send(0, 0, make([]byte, n))
		refused(t, "too long", id, e, api.ErrLong, b, 2, gram(1, 0, 10, "a"))
	}
	b.Send(3, 4, nil)
	left := []api.Gram{gram(1, 0, 10, "a"), gram(2, 3, 4, "")}
	for _, n := range []int{0, 1, 1024} {
		id, e := b.Send(0, 0, make([]byte, n))
		refused(t, "full", id, e, api.ErrFull, b, 2, left...)
	}
	// Of two errors the one that the chapter names first is told.
	id, e := b.Send(0, 0, make([]byte, 1025))
	refused(t, "full, and too long", id, e, api.ErrLong, b, 2, left...)
}

func TestP902IdsGoOn(t *testing.T) {
	b := filled(t, 3, "a", "b")
	b.Take(1)
	b.Take(0)
	want := 3
	next := func(what string, id int, e api.Errno) {
		t.Helper()
		if id != want || e != api.OK {
			t.Errorf("%s: %d, error %d, not %d", what, id, e, want)
		}
		want++
	}
	id, e := b.Send(0, 0, nil)
	next("behind Take of all", id, e)
	id, e = b.Double(0)
	next("Double", id, e)
	b.Send(0, 0, make([]byte, 1025))
	b.Double(2)
	b.Take(9)
	id, e = b.Send(0, 0, []byte("x"))
	next("behind what was refused", id, e)
	b.Send(0, 0, nil)
	b.Double(0)
	b.Spoil(2, 0, 9)
	b.Move(0, 2)
	b.Take(1)
	id, e = b.Double(0)
	next("behind what was refused for the room", id, e)
}

func TestP902DataIsACopy(t *testing.T) {
	b := must(t, 3)
	room := []byte("abcdef")
	b.Send(0, 0, room[1:3])
	if string(room) != "abcdef" {
		t.Errorf("Send has turned what it was handed: %q", room)
	}
	copy(room, "xxxxxx")
	has(t, "behind a change of what was handed in", b, 3, gram(1, 0, 0, "bc"))
	b.Spoil(0, 0, 1)
	b.Double(0)
	b.Spoil(1, 1, 1)
	if string(room) != "xxxxxx" {
		t.Errorf("Spoil has turned what was handed in: %q", room)
	}
}

func TestP903NoPlace(t *testing.T) {
	left := []api.Gram{gram(1, 0, 10, "a"), gram(2, 1, 11, ""), gram(3, 2, 12, "cd")}
	b := filled(t, 3, "a", "", "cd")
	for n := 3; n >= 0; n-- {
		for _, i := range none(n) {
			g, e := b.At(i)
			if g.From != 0 || g.To != 0 || len(g.Data) != 0 {
				t.Errorf("At(%d) beside its error: %v", i, g)
			}
			refused(t, "At", g.Id, e, api.ErrGram, b, 3, left[:n]...)
			g, e = b.Take(i)
			if g.From != 0 || g.To != 0 || len(g.Data) != 0 {
				t.Errorf("Take(%d) beside its error: %v", i, g)
			}
			refused(t, "Take", g.Id, e, api.ErrGram, b, 3, left[:n]...)
			// With no room either: the place is looked at first.
			id, e := b.Double(i)
			refused(t, "Double", id, e, api.ErrGram, b, 3, left[:n]...)
			for to := range n {
				refused(t, "Move from none", 0, b.Move(i, to), api.ErrGram, b, 3, left[:n]...)
				refused(t, "Move to none", 0, b.Move(to, i), api.ErrGram, b, 3, left[:n]...)
			}
			refused(t, "Move, none", 0, b.Move(i, i), api.ErrGram, b, 3, left[:n]...)
			refused(t, "Spoil", 0, b.Spoil(i, 0, 1), api.ErrGram, b, 3, left[:n]...)
			refused(t, "Spoil by 0", 0, b.Spoil(i, 0, 0), api.ErrGram, b, 3, left[:n]...)
		}
		if n > 0 {
			b.Take(n - 1)
		}
	}
}

func TestP903Take(t *testing.T) {
	texts := []string{"a", "bb", "", "dddd", "e"}
	for i := range texts {
		b := filled(t, 5, texts...)
		g, e := b.Take(i)
		if !same(g, gram(i+1, i, 10+i, texts[i])) || e != api.OK {
			t.Errorf("Take(%d): %v, error %d", i, g, e)
		}
		var want []api.Gram
		for k, text := range texts {
			if k != i {
				want = append(want, gram(k+1, k, 10+k, text))
			}
		}
		has(t, "taken", b, 5, want...)
	}
}

func TestP903Double(t *testing.T) {
	b := must(t, 5)
	b.Send(-3, math.MaxInt, []byte("\x00a"))
	b.Send(4, 5, nil)
	for i, want := range []int{3, 4, 5} {
		if id, e := b.Double(i); id != want || e != api.OK {
			t.Errorf("Double(%d): %d, error %d, not %d", i, id, e, want)
		}
	}
	left := []api.Gram{gram(1, -3, math.MaxInt, "\x00a"), gram(2, 4, 5, ""), gram(3, -3, math.MaxInt, "\x00a"), gram(4, 4, 5, ""), gram(5, -3, math.MaxInt, "\x00a")}
	has(t, "doubled", b, 5, left...)
	for i := range left {
		id, e := b.Double(i)
		refused(t, "Double without room", id, e, api.ErrFull, b, 5, left...)
	}
}

func TestP903DoublesAreSpoiltApart(t *testing.T) {
	b := filled(t, 4, "abc")
	b.Double(0)
	b.Double(1)
	b.Spoil(1, 0, 1)
	has(t, "the second", b, 4, gram(1, 0, 10, "abc"), gram(2, 0, 10, "`bc"), gram(3, 0, 10, "abc"))
	b.Spoil(0, 2, 1)
	has(t, "the first", b, 4, gram(1, 0, 10, "abb"), gram(2, 0, 10, "`bc"), gram(3, 0, 10, "abc"))
	b.Double(1)
	has(t, "the spoilt one's double", b, 4, gram(1, 0, 10, "abb"), gram(2, 0, 10, "`bc"), gram(3, 0, 10, "abc"), gram(4, 0, 10, "`bc"))
}

func TestP903Move(t *testing.T) {
	texts := []string{"a", "bb", "", "dddd", "e", "f"}
	for i := range texts {
		for to := range texts {
			b := filled(t, 6, texts...)
			if e := b.Move(i, to); e != api.OK {
				t.Errorf("Move(%d, %d): error %d", i, to, e)
			}
			// The others keep their order; the one that is moved stands at its place.
			var want []api.Gram
			for k, text := range texts {
				if k != i {
					want = append(want, gram(k+1, k, 10+k, text))
				}
			}
			want = slices.Insert(want, to, gram(i+1, i, 10+i, texts[i]))
			has(t, "moved", b, 6, want...)
		}
	}
}

func TestP903Spoil(t *testing.T) {
	text := "abc"
	places := map[int]int{0: 0, 1: 1, 2: 2, 3: 0, 4: 1, 302: 2, -1: 2, -2: 1, -3: 0, -4: 2, -300: 0,
		math.MaxInt: 1, math.MaxInt - 1: 0, math.MinInt: 1, math.MinInt + 1: 2} // 2^63 - 1 is 1 and -2^63 is 1 among three
	for at, k := range places {
		for _, by := range []int{1, 2, 127, 128, 254, 255} {
			b := filled(t, 3, "x", text, "y")
			if e := b.Spoil(1, at, by); e != api.OK {
				t.Errorf("Spoil(1, %d, %d): error %d", at, by, e)
			}
			turned := []byte(text)
			turned[k] = byte(int(turned[k]) ^ by)
			has(t, "spoilt", b, 3, gram(1, 0, 10, "x"), gram(2, 1, 11, string(turned)), gram(3, 2, 12, "y"))
			if e := b.Spoil(1, k, by); e != api.OK {
				t.Errorf("Spoil(1, %d, %d) again: error %d", k, by, e)
			}
			has(t, "spoilt twice", b, 3, gram(1, 0, 10, "x"), gram(2, 1, 11, text), gram(3, 2, 12, "y"))
		}
	}
}

func TestP903SpoilOfEveryByteByEveryNumber(t *testing.T) {
	b := filled(t, 1, "\x00")
	was := byte(0)
	for by := 1; by <= 255; by++ {
		if e := b.Spoil(0, by*7, by); e != api.OK {
			t.Errorf("Spoil by %d: error %d", by, e)
		}
		was ^= byte(by)
		has(t, "one byte", b, 1, gram(1, 0, 10, string([]byte{was})))
	}
	long := bytes.Repeat([]byte{0x5a}, 1024)
	b = filled(t, 1, string(long))
	for at := -1024; at < 0; at++ {
		b.Spoil(0, at, 0xff)
		long[1024+at] = 0xa5
		if g, e := b.At(0); !bytes.Equal(g.Data, long) || e != api.OK {
			t.Fatalf("Spoil(0, %d, 255): other bytes than wanted, error %d", at, e)
		}
	}
}

func TestP903SpoilRefused(t *testing.T) {
	left := []api.Gram{gram(1, 0, 10, "a"), gram(2, 1, 11, "")}
	b := filled(t, 3, "a", "")
	for _, by := range []int{0, -1, 256, 257, -255, 512, 1<<32 + 1, math.MinInt, math.MaxInt} {
		refused(t, "by no byte", 0, b.Spoil(0, 0, by), api.ErrArg, b, 3, left...)
		refused(t, "by no byte, of none", 0, b.Spoil(1, 0, by), api.ErrArg, b, 3, left...)
	}
	for _, at := range []int{0, 1, -1, math.MinInt, math.MaxInt} {
		refused(t, "of none", 0, b.Spoil(1, at, 1), api.ErrArg, b, 3, left...)
	}
}

// Rule 3: what is told is new memory, however often it is told.
func TestP903ToldIsNewMemory(t *testing.T) {
	b := filled(t, 3, "abc")
	b.Double(0)
	turn := func(what string, g api.Gram) {
		t.Helper()
		for i := range g.Data[:cap(g.Data)] {
			g.Data[:cap(g.Data)][i] = '#'
		}
		has(t, what, b, 3, gram(1, 0, 10, "abc"), gram(2, 0, 10, "abc"))
	}
	g, _ := b.At(0)
	turn("At", g)
	for _, g := range b.All() {
		turn("All", g)
	}
	b.Double(0)
	g, _ = b.Take(2)
	turn("Take of a double", g)
	all := b.All()
	b.Double(0)
	g, _ = b.Take(0)
	for i := range g.Data {
		g.Data[i] = '#'
	}
	has(t, "Take of one that was doubled", b, 3, gram(2, 0, 10, "abc"), gram(4, 0, 10, "abc"))
	for i, got := range all {
		if want := gram(i+1, 0, 10, "abc"); !same(got, want) {
			t.Errorf("All from ahead of Take: %v, not %v", got, want)
		}
	}
}

func TestP904AsAtTheCall(t *testing.T) {
	b := filled(t, 6, "a", "b", "c")
	want := []api.Gram{gram(1, 0, 10, "a"), gram(2, 1, 11, "b"), gram(3, 2, 12, "c")}
	steps := []func(){
		func() { b.Spoil(0, 0, 1) },
		func() { b.Move(0, 2) },
		func() { b.Double(1) },
		func() { b.Take(0) },
		func() { b.Send(7, 8, []byte("x")) },
		func() { b.Take(0); b.Take(0); b.Take(0); b.Take(0) },
		func() { b.Send(9, 9, nil); b.Send(9, 9, nil); b.Send(9, 9, nil) },
	}
	all := b.All()
	look := func(what string) {
		t.Helper()
		n := 0
		for i, g := range all {
			if i != n || !same(g, want[i]) {
				t.Errorf("%s: %v at %d, not %v", what, g, i, want[i])
			}
			n++
		}
		if n != len(want) {
			t.Errorf("%s: gone through %d", what, n)
		}
	}
	look("at first")
	for _, step := range steps {
		step()
		look("behind a step")
	}
}

func TestP904StepsWithin(t *testing.T) {
	b := filled(t, 9, "a", "b", "c")
	var ids []int
	for i, g := range b.All() {
		if i != len(ids) {
			t.Errorf("the place %d, not %d", i, len(ids))
		}
		ids = append(ids, g.Id)
		b.Take(0)
		b.Send(0, 0, nil)
		b.Send(0, 0, nil)
	}
	if !slices.Equal(ids, []int{1, 2, 3}) || b.Len() != 6 {
		t.Errorf("All with steps within: %v, then %d", ids, b.Len())
	}
}

func TestP904WithinItself(t *testing.T) {
	b := filled(t, 3, "a", "b", "c")
	all := b.All()
	var pairs []int
	for i, g := range all {
		for k, h := range all {
			if k > i {
				break
			}
			pairs = append(pairs, g.Id*10+h.Id)
		}
	}
	if !slices.Equal(pairs, []int{11, 21, 22, 31, 32, 33}) {
		t.Errorf("All within itself: %v", pairs)
	}
}

func TestP904LeftEarlyAndTurned(t *testing.T) {
	b := filled(t, 3, "a", "b", "c")
	all := b.All()
	for want := 1; want <= 3; want++ {
		n := 0
		for _, g := range all {
			g.Data[0] = '#'
			n++
			if n == want {
				break
			}
		}
		if n != want {
			t.Errorf("left at the %d, gone through %d", want, n)
		}
	}
	for i, g := range all {
		if g.Data[0] != "abc"[i] {
			t.Errorf("what was told is told again: %q at %d", g.Data, i)
		}
	}
	has(t, "beyond", b, 3, gram(1, 0, 10, "a"), gram(2, 1, 11, "b"), gram(3, 2, 12, "c"))
}
