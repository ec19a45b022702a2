package audit_test

import (
	"math"
	"slices"
	"strings"
	"testing"

	"earshot/api"
	"earshot/audit"
	"earshot/cluster"
)

// of makes a set without the help of package idset, so that the tests hang on none of its calls.
func of(ids ...int) api.Set {
	var s api.Set
	for _, id := range ids {
		s[id/32] |= 1 << (id % 32)
	}
	return s
}

// upTo is the set of 0 to n - 1.
func upTo(n int) api.Set {
	var s api.Set
	for id := range n {
		s[id/32] |= 1 << (id % 32)
	}
	return s
}

func begins(id, life, round, tag int) api.Event {
	return api.Event{Kind: api.EventBegin, Node: id, Life: life, Round: round, Tag: tag}
}

func asks(id, life, round int) api.Event {
	return api.Event{Kind: api.EventAsk, Node: id, Life: life, Round: round}
}

func closes(id, life, round int, heard, union api.Set) api.Event {
	return api.Event{Kind: api.EventClose, Node: id, Life: life, Round: round, Heard: heard, Union: union}
}

func doubts(id, life, round, of, tag int) api.Event {
	return api.Event{Kind: api.EventDoubt, Node: id, Life: life, Round: round, Of: of, Tag: tag}
}

func defends(id, life, tag, durable int) api.Event {
	return api.Event{Kind: api.EventDefend, Node: id, Life: life, Tag: tag, Durable: durable}
}

func falls(id, life int) api.Event {
	return api.Event{Kind: api.EventDown, Node: id, Life: life}
}

func suspicion(of, tag int) api.Notice {
	return api.Notice{Of: of, Tag: tag, Kind: api.Suspicion}
}

// far are numbers that are neither ids nor kinds.
func far() []int {
	return []int{math.MinInt, math.MinInt + 1, -1 << 62, -1 << 32, -100, -2, -1, api.MaxNodes, 128, 1 << 32, 1<<32 + 1, 1 << 62, math.MaxInt - 1, math.MaxInt}
}

// lawful holds that a history keeps the laws.
func lawful(t testing.TB, n, f int, l ...api.Event) {
	t.Helper()
	if at, e := audit.Check(n, f, l); at != 0 || e != api.OK {
		t.Errorf("Check(%d, %d, %v): %d, error %d", n, f, l, at, e)
	}
}

// offends holds that the event at a place is the first one that offends.
func offends(t testing.TB, n, f, place int, l ...api.Event) {
	t.Helper()
	if at, e := audit.Check(n, f, l); at != place || e != api.ErrLaw {
		t.Errorf("Check(%d, %d, %v): %d, error %d, not %d", n, f, l, at, e, place)
	}
}

// lastOffends holds that of a history the last event alone offends.
func lastOffends(t testing.TB, n, f int, l ...api.Event) {
	t.Helper()
	offends(t, n, f, len(l)-1, l...)
}

// behind puts events behind a history, in new memory.
func behind(l []api.Event, more ...api.Event) []api.Event {
	return append(slices.Clone(l), more...)
}

// three are the beginnings of three nodes.
func three() []api.Event {
	return []api.Event{begins(0, 1, 1, 0), begins(1, 1, 1, 0), begins(2, 1, 1, 0)}
}

// closed are these, and a round of 0 that 0 and 1 have closed, of which nobody has heard 2.
func closed() []api.Event { return behind(three(), closes(0, 1, 1, of(0, 1), of(0, 1))) }

func TestExamples(t *testing.T) {
	lawful(t, 3, 1)
	if at, e := audit.Check(3, 3, nil); at != 0 || e != api.ErrArg {
		t.Errorf("Check(3, 3, none): %d, error %d", at, e)
	}
	c, _ := cluster.New(3, 1)
	for _, s := range []api.Step{
		{Kind: 99},
		{Kind: api.StepPoll},
		{Kind: api.StepDeliver},
		{Kind: api.StepDeliver, A: -1},
		{Kind: api.StepPoll},
		{Kind: api.StepCrash, A: 2},
		{Kind: api.StepFlush},
		{Kind: api.StepTurn},
		{Kind: api.StepTurn},
		{Kind: api.StepTurn},
		{Kind: api.StepRestart, A: 2},
		{Kind: api.StepRestart, A: 2},
	} {
		c.Do(s)
		lawful(t, 3, 1, c.History()...)
	}
	if len(c.History()) < 20 {
		t.Errorf("no more than %d events", len(c.History()))
	}
	one := begins(0, 1, 1, 0)
	shut := closes(0, 1, 1, of(0), of(0))
	offends(t, 2, 0, 0, asks(0, 1, 1))
	offends(t, 1, 0, 1, one, begins(0, 2, 2, 0))
	offends(t, 1, 0, 2, one, shut)
	offends(t, 1, 0, 4, one, shut, asks(0, 1, 2), falls(0, 1), begins(0, 2, 2, 0))
	lawful(t, 1, 0, one, shut, asks(0, 1, 2), falls(0, 1), begins(0, 2, 3, 0))
}

func TestP1901Arguments(t *testing.T) {
	refused := func(n, f int) {
		t.Helper()
		for _, l := range [][]api.Event{nil, {}, three(), {{Kind: 7}}, {begins(0, 1, 1, 0), {Kind: 7}}} {
			if at, e := audit.Check(n, f, l); at != 0 || e != api.ErrArg {
				t.Errorf("Check(%d, %d, %v): %d, error %d", n, f, l, at, e)
			}
		}
	}
	for _, v := range append(far(), 0, 101) {
		if v != api.MaxNodes {
			refused(v, 0)
			refused(v, v)
			refused(v, v-1)
		}
		if v != 0 {
			refused(1, v)
			refused(3, v)
			refused(api.MaxNodes, v)
		}
	}
	refused(3, 3)
	refused(1, 1)
	for n := 1; n <= api.MaxNodes; n++ {
		refused(n, -1)
		refused(n, n)
		lawful(t, n, 0)
		lawful(t, n, n-1, []api.Event{}...)
	}
}

// TestP1901First: only the first event that offends is told, whatever stands behind it.
func TestP1901First(t *testing.T) {
	wrong := api.Event{Kind: 7}
	offends(t, 3, 1, 0, wrong, begins(0, 1, 1, 0))
	offends(t, 3, 1, 1, begins(0, 1, 1, 0), wrong, wrong)
	offends(t, 3, 1, 2, begins(0, 1, 1, 0), asks(0, 1, 1), asks(0, 1, 2), wrong, closes(0, 1, 1, of(0, 1), of(0, 1)))
	offends(t, 3, 1, 3, behind(three(), closes(0, 1, 2, of(0, 1), of(0, 1)))...)
	// An event that offends at the last place, and a row that does not end behind it.
	offends(t, 3, 1, 4, behind(closed(), doubts(0, 1, 1, 1, 0))...)
}

func TestP1901Kind(t *testing.T) {
	for _, kind := range append(far(), 0, 7, 8, 1<<32|api.EventAsk) {
		lastOffends(t, 3, 1, api.Event{Kind: kind, Life: 1, Round: 1})
		lastOffends(t, 3, 1, behind(three(), api.Event{Kind: kind, Life: 1, Round: 1})...)
		lastOffends(t, 3, 1, behind(three(), api.Event{Kind: kind, Life: 1})...)
		lastOffends(t, 3, 1, behind(closed(), api.Event{Kind: kind, Life: 1, Round: 2})...)
		lastOffends(t, 3, 1, behind(closed(), api.Event{Kind: kind, Life: 1, Round: 1, Of: 2})...)
	}
}

// kinds are events of each kind, each with a history behind which it is lawful, and the numbers that its kind has.
func kinds() []struct {
	ahead []api.Event
	x     api.Event
	has   string
} {
	return []struct {
		ahead []api.Event
		x     api.Event
		has   string
	}{
		{nil, begins(0, 1, 1, 0), "round tag"},
		{three(), asks(0, 1, 1), "round"},
		{closed(), asks(0, 1, 2), "round"},
		{three(), closes(0, 1, 1, of(0, 1), of(0, 1)), "round heard union"},
		{closed(), doubts(0, 1, 1, 2, 0), "round of tag"},
		{three(), defends(0, 1, 1, 4), "tag durable"},
		{three(), falls(0, 1), ""},
	}
}

// whole is a history that an event may stand at the end of: a row is ended.
func whole(ahead []api.Event, x api.Event) []api.Event {
	l := behind(ahead, x)
	if x.Kind == api.EventClose || x.Kind == api.EventDoubt {
		l = append(l, asks(x.Node, x.Life, x.Round+1))
	}
	return l
}

func TestP1901Node(t *testing.T) {
	for _, k := range kinds() {
		lawful(t, 3, 1, whole(k.ahead, k.x)...)
		for _, id := range append(far(), 3, 99) {
			x := k.x
			x.Node = id
			lastOffends(t, 3, 1, behind(k.ahead, x)...)
		}
	}
	for id := range api.MaxNodes {
		lawful(t, id+1, 0, begins(id, 1, 1, 0), asks(id, 1, 1))
		lawful(t, api.MaxNodes, 5, begins(id, 1, 1, 0), asks(id, 1, 1))
		lastOffends(t, max(id, 1), 0, begins(max(id, 1), 1, 1, 0))
	}
}

func TestP1901Life(t *testing.T) {
	for _, k := range kinds() {
		for _, life := range append(far(), 0, 2, api.MaxLife, api.MaxLife+1) {
			x := k.x
			x.Life = life
			if x.Kind == api.EventBegin && life >= 1 && life <= api.MaxLife {
				lawful(t, 3, 1, behind(k.ahead, x)...)
				continue
			}
			lastOffends(t, 3, 1, behind(k.ahead, x)...)
		}
	}
	last := begins(0, api.MaxLife, 1, 0)
	lawful(t, 1, 0, last, asks(0, api.MaxLife, 1), falls(0, api.MaxLife))
	lastOffends(t, 1, 0, last, falls(0, api.MaxLife), begins(0, api.MaxLife+1, 2, 0))
}

// without tells each way to put something into an event where its kind has nothing.
func without(x api.Event, has string) []api.Event {
	var l []api.Event
	put := func(what string, turn func(y *api.Event)) {
		// None of the fields' names is a part of another one.
		if !strings.Contains(has, what) {
			y := x
			turn(&y)
			l = append(l, y)
		}
	}
	for _, v := range []int{math.MinInt, -1, 1, 2, 1 << 32, math.MaxInt} {
		put("round", func(y *api.Event) { y.Round = v })
		put("tag", func(y *api.Event) { y.Tag = v })
		put("of", func(y *api.Event) { y.Of = v })
		put("durable", func(y *api.Event) { y.Durable = v })
	}
	for id := range 128 {
		put("heard", func(y *api.Event) { y.Heard = of(id) })
		put("union", func(y *api.Event) { y.Union = of(id) })
	}
	return l
}

// TestP1901OtherFields: what the table does not name for a kind is zero.
func TestP1901OtherFields(t *testing.T) {
	for _, k := range kinds() {
		for _, x := range without(k.x, k.has) {
			lastOffends(t, 3, 1, behind(k.ahead, x)...)
		}
	}
}

// TestP1901Rows: behind an EventClose or an EventDoubt comes an EventDoubt or an EventAsk of the same node.
func TestP1901Rows(t *testing.T) {
	// Of four nodes 0 and 1 have replied, and nobody has heard the others.
	up := []api.Event{begins(0, 1, 1, 0), begins(1, 1, 1, 0), begins(2, 1, 1, 0)}
	shut := behind(up, closes(0, 1, 1, of(0, 1), of(0, 1)))
	doubted := behind(shut, doubts(0, 1, 1, 2, 0))
	twice := behind(doubted, doubts(0, 1, 1, 3, 0))
	for _, l := range [][]api.Event{shut, doubted, twice} {
		lawful(t, 4, 2, behind(l, asks(0, 1, 2))...)
		lawful(t, 4, 2, behind(l, asks(0, 1, 2), asks(1, 1, 1), falls(0, 1))...)
		for _, x := range []api.Event{
			asks(1, 1, 1), asks(1, 1, 2), asks(2, 1, 2),
			doubts(1, 1, 1, 3, 0), doubts(2, 1, 1, 3, 0),
			closes(0, 1, 1, of(0, 1), of(0, 1)), closes(1, 1, 1, of(0, 1), of(0, 1)),
			defends(0, 1, 1, 4), defends(1, 1, 1, 4),
			falls(0, 1), falls(1, 1),
			begins(3, 1, 1, 0), begins(0, 2, 2, 0),
		} {
			lastOffends(t, 4, 2, behind(l, x)...)
			offends(t, 4, 2, len(l), behind(l, x, asks(0, 1, 2))...)
		}
		// A history that ends within a row offends behind its end.
		offends(t, 4, 2, len(l), l...)
	}
	// Ahead of an EventDoubt there is an EventClose or another EventDoubt.
	for round := range 3 {
		x := doubts(0, 1, round, 2, 0)
		lastOffends(t, 4, 2, x)
		lastOffends(t, 4, 2, begins(0, 1, 1, 0), x)
		lastOffends(t, 4, 2, behind(up, asks(0, 1, 1), x)...)
		lastOffends(t, 4, 2, behind(up, defends(0, 1, 1, 4), x)...)
		lastOffends(t, 4, 2, behind(up, falls(1, 1), x)...)
		lastOffends(t, 4, 2, behind(shut, asks(0, 1, 2), x)...)
	}
	lastOffends(t, 4, 2, behind(twice, asks(0, 1, 2), doubts(0, 1, 2, 3, 0))...)
	lastOffends(t, 4, 2, behind(doubted, asks(0, 1, 2), doubts(0, 1, 1, 3, 0))...)
	// A row's nodes are told apart: each has its own one behind the other.
	lawful(t, 4, 2, behind(doubted, asks(0, 1, 2), closes(1, 1, 1, of(1, 2), of(1, 2)), doubts(1, 1, 1, 0, 0), doubts(1, 1, 1, 3, 5), asks(1, 1, 2), asks(0, 1, 2))...)
}

// TestP1901Up: but of EventBegin, its node is up, in that life.
func TestP1901Up(t *testing.T) {
	all := func(id, life int) []api.Event {
		return []api.Event{asks(id, life, 1), closes(id, life, 1, of(0, 1), of(0, 1)), doubts(id, life, 1, 2, 0), defends(id, life, 9, 9), falls(id, life)}
	}
	for _, x := range all(0, 1) {
		lastOffends(t, 3, 1, x)
		lastOffends(t, 3, 1, begins(1, 1, 1, 0), x)
		lastOffends(t, 3, 1, behind(three(), falls(0, 1), x)...)
		lastOffends(t, 3, 1, behind(three(), falls(0, 1), begins(0, 2, 1, 0), x)...)
	}
	for _, x := range all(0, 2) {
		lastOffends(t, 3, 1, behind(three(), x)...)
		lastOffends(t, 3, 1, behind(three(), falls(0, 1), x)...)
		lastOffends(t, 3, 1, behind(three(), falls(0, 1), begins(0, 3, 1, 0), x)...)
	}
	// Within a row the life counts as well.
	for _, x := range []api.Event{asks(0, 2, 2), doubts(0, 2, 1, 2, 0)} {
		lastOffends(t, 3, 1, behind(closed(), x)...)
	}
	lawful(t, 3, 1, behind(three(), falls(0, 1), asks(1, 1, 1), falls(1, 1), begins(0, 2, 1, 0), asks(0, 2, 1), begins(1, 7, 2, 0), falls(0, 2))...)
}

func TestP1901Begin(t *testing.T) {
	// Nobody begins who is up.
	lastOffends(t, 1, 0, begins(0, 1, 1, 0), begins(0, 1, 1, 0))
	lastOffends(t, 1, 0, begins(0, 1, 1, 0), begins(0, 2, 2, 0))
	lawful(t, 2, 0, begins(0, 1, 1, 0), begins(1, 1, 1, 0))
	// Lives rise; they need not rise one by one, nor begin at 1.
	past := []api.Event{begins(0, 5, 1, 0), falls(0, 5)}
	for life := 1; life <= 5; life++ {
		lastOffends(t, 2, 0, behind(past, begins(0, life, 1, 0))...)
		lawful(t, 2, 0, behind(past, begins(1, life, 1, 0))...)
	}
	lawful(t, 2, 0, behind(past, begins(0, 6, 1, 0))...)
	lawful(t, 2, 0, behind(past, begins(0, api.MaxLife, 1, 0))...)
	lastOffends(t, 2, 0, behind(past, begins(0, 9, 1, 0), falls(0, 9), begins(0, 7, 1, 0))...)
	lastOffends(t, 2, 0, behind(past, begins(0, 9, 1, 0), falls(0, 9), begins(0, 9, 1, 0))...)
	for _, round := range []int{math.MinInt, -1, 0, api.MaxRound + 1, math.MaxInt} {
		lastOffends(t, 1, 0, begins(0, 1, round, 0))
	}
	lawful(t, 1, 0, begins(0, 1, 1, 0))
	lawful(t, 1, 0, begins(0, 1, api.MaxRound, 0))
	for _, tag := range []int{math.MinInt, -1, api.MaxTag + 1, math.MaxInt} {
		lastOffends(t, 1, 0, begins(0, 1, 1, tag))
	}
	lawful(t, 1, 0, begins(0, 1, 1, api.MaxTag))
}

// TestP1901BeginRound: a life begins above all that its node has asked, in whichever life; what was open and never asked may come again.
func TestP1901BeginRound(t *testing.T) {
	quiet := []api.Event{begins(0, 1, 9, 0), falls(0, 1)}
	for _, round := range []int{1, 8, 9, 10, api.MaxRound} {
		lawful(t, 1, 0, behind(quiet, begins(0, 2, round, 0))...)
	}
	lastOffends(t, 1, 0, behind(quiet, begins(0, 2, 0, 0))...)
	asked := []api.Event{begins(0, 1, 9, 0), asks(0, 1, 9), falls(0, 1)}
	for _, round := range []int{1, 8, 9} {
		lastOffends(t, 1, 0, behind(asked, begins(0, 2, round, 0))...)
		// A life that asks nothing does not make it forgotten.
		lastOffends(t, 1, 0, behind(asked, begins(0, 2, 20, 0), falls(0, 2), begins(0, 3, round, 0))...)
	}
	lawful(t, 1, 0, behind(asked, begins(0, 2, 10, 0))...)
	lawful(t, 1, 0, behind(asked, begins(0, 2, 20, 0), falls(0, 2), begins(0, 3, 10, 0))...)
	// The rounds of another node say nothing.
	lawful(t, 2, 0, behind(asked, begins(1, 1, 1, 0))...)
	// A round that was asked behind a row counts too.
	row := []api.Event{begins(0, 1, 1, 0), closes(0, 1, 1, of(0), of(0)), asks(0, 1, 7), falls(0, 1)}
	for _, round := range []int{1, 2, 6, 7} {
		lastOffends(t, 1, 0, behind(row, begins(0, 2, round, 0))...)
	}
	lawful(t, 1, 0, behind(row, begins(0, 2, 8, 0), asks(0, 2, 8), closes(0, 2, 8, of(0), of(0)), asks(0, 2, 9))...)
	// Behind the last round no life can begin.
	end := []api.Event{begins(0, 1, api.MaxRound, 0), asks(0, 1, api.MaxRound), falls(0, 1)}
	lastOffends(t, 1, 0, behind(end, begins(0, 2, api.MaxRound, 0))...)
	lastOffends(t, 1, 0, behind(end, begins(0, 2, api.MaxRound+1, 0))...)
}

// TestP1901BeginTag: a life begins at a tag that is at least the node's.
func TestP1901BeginTag(t *testing.T) {
	past := []api.Event{begins(0, 1, 1, 4), falls(0, 1)}
	raised := []api.Event{begins(0, 1, 1, 0), defends(0, 1, 4, 8), falls(0, 1)}
	for _, l := range [][]api.Event{past, raised} {
		for _, tag := range []int{-1, 0, 3} {
			lastOffends(t, 2, 0, behind(l, begins(0, 2, 2, tag))...)
		}
		for _, tag := range []int{4, 5, 8, 9, api.MaxTag} {
			lawful(t, 2, 0, behind(l, begins(0, 2, 2, tag))...)
		}
		lawful(t, 2, 0, behind(l, begins(1, 1, 1, 0))...)
		lastOffends(t, 2, 0, behind(l, begins(0, 2, 2, 6), falls(0, 2), begins(0, 3, 3, 5))...)
	}
}

func TestP1901Ask(t *testing.T) {
	begun := []api.Event{begins(0, 1, 5, 0)}
	lawful(t, 1, 0, behind(begun, asks(0, 1, 5), asks(0, 1, 5), defends(0, 1, 1, 1), asks(0, 1, 5))...)
	for _, round := range []int{math.MinInt, -1, 0, 1, 4, 6, api.MaxRound, math.MaxInt} {
		lastOffends(t, 1, 0, behind(begun, asks(0, 1, round))...)
		lastOffends(t, 1, 0, behind(begun, asks(0, 1, 5), asks(0, 1, round))...)
	}
	shut := behind(begun, closes(0, 1, 5, of(0), of(0)))
	for _, round := range []int{math.MinInt, -1, 0, 1, 4, 5, api.MaxRound + 1, math.MaxInt} {
		lastOffends(t, 1, 0, behind(shut, asks(0, 1, round))...)
	}
	// The rounds of a row need not rise one by one; the greater one is open then.
	for _, round := range []int{6, 7, 1000, api.MaxRound} {
		next := behind(shut, asks(0, 1, round))
		lawful(t, 1, 0, next...)
		lawful(t, 1, 0, behind(next, asks(0, 1, round))...)
		lastOffends(t, 1, 0, behind(next, asks(0, 1, 5))...)
		lastOffends(t, 1, 0, behind(next, asks(0, 1, round+1))...)
		lastOffends(t, 1, 0, behind(next, closes(0, 1, 5, of(0), of(0)))...)
	}
	// Likewise behind a doubt.
	doubted := []api.Event{begins(0, 1, 5, 0), closes(0, 1, 5, of(0), of(0)), doubts(0, 1, 5, 1, 0)}
	for _, round := range []int{-1, 0, 4, 5, api.MaxRound + 1} {
		lastOffends(t, 2, 1, behind(doubted, asks(0, 1, round))...)
	}
	lawful(t, 2, 1, behind(doubted, asks(0, 1, 6), asks(0, 1, 6))...)
	lawful(t, 2, 1, behind(doubted, asks(0, 1, api.MaxRound))...)
	// Behind the last round nothing can be closed.
	last := []api.Event{begins(0, 1, api.MaxRound, 0), closes(0, 1, api.MaxRound, of(0), of(0))}
	for _, round := range []int{1, api.MaxRound, api.MaxRound + 1} {
		lastOffends(t, 1, 0, behind(last, asks(0, 1, round))...)
	}
	// Each node has its own open round.
	lawful(t, 2, 0, begins(0, 1, 5, 0), begins(1, 1, 9, 0), asks(1, 1, 9), asks(0, 1, 5))
	lastOffends(t, 2, 0, begins(0, 1, 5, 0), begins(1, 1, 9, 0), asks(0, 1, 9))
}

func TestP1901Close(t *testing.T) {
	past := []api.Event{begins(1, 1, 5, 0), asks(1, 1, 5)}
	shut := func(n, f int, heard, union api.Set) {
		t.Helper()
		lawful(t, n, f, behind(past, closes(1, 1, 5, heard, union), asks(1, 1, 6))...)
	}
	refused := func(n, f int, heard, union api.Set) {
		t.Helper()
		lastOffends(t, n, f, behind(past, closes(1, 1, 5, heard, union))...)
	}
	for _, round := range []int{math.MinInt, 0, 4, 6, math.MaxInt} {
		lastOffends(t, 4, 1, behind(past, closes(1, 1, round, of(0, 1, 2), of(0, 1, 2)))...)
	}
	shut(4, 1, of(0, 1, 2), of(0, 1, 2))
	shut(4, 1, of(1, 2, 3), of(0, 1, 2, 3))
	shut(4, 0, upTo(4), upTo(4))
	shut(4, 3, of(1), of(1))
	shut(4, 3, of(1), of(1, 3))
	refused(4, 1, of(0, 1), of(0, 1))
	refused(4, 1, upTo(4), upTo(4))
	refused(4, 1, of(), of(1))
	refused(4, 1, of(0, 2, 3), upTo(4)) // without the node itself
	refused(4, 3, of(0), of(0, 1))
	refused(4, 1, of(0, 1, 4), of(0, 1, 2)) // not within n
	refused(4, 1, of(0, 1, 4), of(0, 1, 4))
	refused(4, 1, of(0, 1, 2, 4), upTo(4))
	refused(4, 1, of(0, 1, 2, 127), upTo(4))
	refused(4, 1, of(0, 1, 2), of(0, 1)) // without one of Heard
	refused(4, 1, of(0, 1, 2), of(0, 1, 3))
	refused(4, 1, of(0, 1, 2), of(1, 2))
	refused(4, 1, of(0, 1, 2), of())
	for id := 4; id < 128; id++ {
		refused(4, 1, of(0, 1, 2, id), of(0, 1, 2))
		refused(4, 1, of(0, 1, 2), of(0, 1, 2, id))
		refused(4, 1, of(0, 1, id), of(0, 1, id))
	}
	all := upTo(api.MaxNodes)
	shut(api.MaxNodes, 0, all, all)
	for id := range 128 {
		more := of(id)
		for w := range all {
			more[w] |= all[w]
		}
		if id < api.MaxNodes {
			lacks := all
			lacks[id/32] &^= 1 << (id % 32)
			refused(api.MaxNodes, 0, all, lacks)
			refused(api.MaxNodes, 0, lacks, all)
			continue
		}
		refused(api.MaxNodes, 0, more, all)
		refused(api.MaxNodes, 0, all, more)
		refused(api.MaxNodes, 0, more, more)
	}
	// A round may be closed that was never asked.
	lawful(t, 1, 0, begins(0, 1, 1, 0), closes(0, 1, 1, of(0), of(0)), asks(0, 1, 2))
}

func TestP1901Doubt(t *testing.T) {
	shut := []api.Event{begins(1, 1, 5, 0), asks(1, 1, 5), closes(1, 1, 5, of(1, 3), of(1, 3, 4))}
	row := func(x ...api.Event) []api.Event { return behind(shut, x...) }
	lawful(t, 7, 5, row(asks(1, 1, 6))...)
	for _, id := range []int{0, 2, 5, 6} {
		lawful(t, 7, 5, row(doubts(1, 1, 5, id, 0), asks(1, 1, 6))...)
	}
	lawful(t, 7, 5, row(doubts(1, 1, 5, 0, 9), doubts(1, 1, 5, 2, 0), doubts(1, 1, 5, 5, 7), doubts(1, 1, 5, 6, 7), asks(1, 1, 6))...)
	for _, id := range append(far(), 1, 3, 4, 7, 8, 99) {
		lastOffends(t, 7, 5, row(doubts(1, 1, 5, id, 0))...)
		lastOffends(t, 7, 5, row(doubts(1, 1, 5, 0, 0), doubts(1, 1, 5, id, 0))...)
	}
	// They rise, each once.
	for _, id := range []int{0, 2, 5} {
		lastOffends(t, 7, 5, row(doubts(1, 1, 5, 5, 0), doubts(1, 1, 5, id, 1))...)
		lastOffends(t, 7, 5, row(doubts(1, 1, 5, 0, 0), doubts(1, 1, 5, 5, 0), doubts(1, 1, 5, id, 1))...)
	}
	for _, tag := range []int{math.MinInt, -1, api.MaxTag + 1, math.MaxInt} {
		lastOffends(t, 7, 5, row(doubts(1, 1, 5, 2, tag))...)
	}
	lawful(t, 7, 5, row(doubts(1, 1, 5, 2, api.MaxTag), asks(1, 1, 6))...)
	for _, round := range []int{math.MinInt, 0, 4, 6, math.MaxInt} {
		lastOffends(t, 7, 5, row(doubts(1, 1, round, 2, 0))...)
		lastOffends(t, 7, 5, row(doubts(1, 1, 5, 0, 0), doubts(1, 1, round, 2, 0))...)
	}
	// Another row has another Union, and may begin with whomever it likes.
	again := row(doubts(1, 1, 5, 6, 0), asks(1, 1, 8), closes(1, 1, 8, of(1, 2), of(1, 2, 6)))
	lawful(t, 7, 5, behind(again, doubts(1, 1, 8, 0, 0), doubts(1, 1, 8, 3, 0), asks(1, 1, 9))...)
	for _, x := range []api.Event{doubts(1, 1, 8, 6, 0), doubts(1, 1, 8, 2, 0), doubts(1, 1, 5, 0, 0)} {
		lastOffends(t, 7, 5, behind(again, x)...)
	}
	// Beyond a set's first word.
	wide := []api.Event{begins(0, 1, 1, 0), closes(0, 1, 1, of(0), of(0, 31, 32, 98))}
	lawful(t, api.MaxNodes, 99, behind(wide, doubts(0, 1, 1, 1, 0), doubts(0, 1, 1, 33, 0), doubts(0, 1, 1, 99, 0), asks(0, 1, 2))...)
	for _, id := range []int{0, 31, 32, 98, 100, 127} {
		lastOffends(t, api.MaxNodes, 99, behind(wide, doubts(0, 1, 1, id, 0))...)
	}
}

func TestP1901Defend(t *testing.T) {
	begun := []api.Event{begins(0, 1, 1, 3), begins(1, 1, 1, 0)}
	for _, tag := range []int{math.MinInt, -1, 0, 2, 3} {
		lastOffends(t, 2, 0, behind(begun, defends(0, 1, tag, 9))...)
		lastOffends(t, 2, 0, behind(begun, defends(0, 1, tag, 3))...)
	}
	for _, tag := range []int{4, 5, 100, api.MaxTag} {
		raised := behind(begun, defends(0, 1, tag, tag))
		lawful(t, 2, 0, raised...)
		lawful(t, 2, 0, behind(begun, defends(0, 1, tag, api.MaxTag))...)
		for _, durable := range []int{math.MinInt, -1, 0, tag - 1, api.MaxTag + 1, math.MaxInt} {
			lastOffends(t, 2, 0, behind(begun, defends(0, 1, tag, durable))...)
		}
		// Its tag is that one from now on.
		lastOffends(t, 2, 0, behind(raised, defends(0, 1, tag, api.MaxTag))...)
		lastOffends(t, 2, 0, behind(raised, defends(0, 1, tag-1, api.MaxTag))...)
		// Of another node it says nothing.
		lawful(t, 2, 0, behind(raised, defends(1, 1, 1, 1))...)
	}
	lastOffends(t, 2, 0, behind(begun, defends(0, 1, api.MaxTag+1, api.MaxTag+1))...)
	lawful(t, 2, 0, behind(begun, defends(0, 1, 4, 9), defends(0, 1, 5, 5), asks(0, 1, 1))...)
	// At its first tag a node has nothing to defend.
	lastOffends(t, 2, 0, behind(begun, defends(1, 1, 0, 0))...)
}

func TestP1901Down(t *testing.T) {
	begun := []api.Event{begins(0, 1, 1, 0), begins(1, 1, 1, 0)}
	lawful(t, 2, 0, behind(begun, falls(0, 1), falls(1, 1))...)
	lastOffends(t, 2, 0, behind(begun, falls(0, 1), falls(0, 1))...)
	lastOffends(t, 2, 0, behind(begun, falls(0, 1), asks(0, 1, 1))...)
	lawful(t, 2, 0, behind(begun, falls(0, 1), asks(1, 1, 1))...)
	lawful(t, 2, 0, behind(begun, falls(0, 1), begins(0, 2, 1, 0), falls(0, 2), begins(0, 3, 1, 0))...)
}

func TestP1902Lives(t *testing.T) {
	told := func(n int, l []api.Event, want ...int) {
		t.Helper()
		if got, e := audit.Lives(n, l); e != api.OK || !slices.Equal(got, want) {
			t.Errorf("Lives(%d, %v): %v, error %d, not %v", n, l, got, e, want)
		}
	}
	for _, n := range append(far(), 0, 101) {
		if n == api.MaxNodes {
			continue
		}
		if got, e := audit.Lives(n, three()); len(got) != 0 || e != api.ErrArg {
			t.Errorf("Lives(%d, ..): %v, error %d", n, got, e)
		}
	}
	told(1, nil, 0)
	told(3, three(), 1, 1, 1)
	told(2, three(), 1, 1)
	told(api.MaxNodes, three(), append([]int{1, 1, 1}, make([]int, api.MaxNodes-3)...)...)
	// No law is asked for, and no other event counts.
	told(2, []api.Event{begins(0, 9, 9, 9), begins(0, 0, 0, 0), {Kind: api.EventBegin, Node: 0, Life: -1, Round: -1, Tag: -1, Of: -1, Durable: 7, Heard: upTo(128)}}, 3, 0)
	others := []api.Event{asks(0, 1, 1), closes(0, 1, 1, of(0), of(0)), doubts(0, 1, 1, 1, 0), defends(0, 1, 1, 4), falls(0, 1), {Kind: 0}, {Kind: 7}, {Kind: -1}, {Kind: 1<<32 | 1}}
	told(2, others, 0, 0)
	for _, id := range append(far(), 2, 3) {
		told(2, []api.Event{begins(id, 1, 1, 0), begins(1, 1, 1, 0), begins(id, 1, 1, 0)}, 0, 1)
	}
	told(api.MaxNodes, []api.Event{begins(99, 1, 1, 0), begins(99, 1, 1, 0)}, append(make([]int, 99), 2)...)
}

func TestP1902Doubts(t *testing.T) {
	told := func(n int, l []api.Event, want ...api.Notice) {
		t.Helper()
		if got, e := audit.Doubts(n, l); e != api.OK || !slices.Equal(got, want) {
			t.Errorf("Doubts(%d, %v): %v, error %d, not %v", n, l, got, e, want)
		}
	}
	some := []api.Event{doubts(0, 1, 1, 2, 3), doubts(2, 1, 1, 0, 1), doubts(1, 1, 1, 2, 7), doubts(0, 1, 5, 2, 4), doubts(1, 1, 9, 0, 1)}
	for _, n := range append(far(), 0, 101) {
		if n == api.MaxNodes {
			continue
		}
		if got, e := audit.Doubts(n, some); len(got) != 0 || e != api.ErrArg {
			t.Errorf("Doubts(%d, ..): %v, error %d", n, got, e)
		}
	}
	told(1, nil)
	told(3, three())
	told(3, some, suspicion(0, 1), suspicion(2, 7))
	told(api.MaxNodes, some, suspicion(0, 1), suspicion(2, 7))
	told(2, some[:4]) // whoever doubts must be one of them, and whoever is doubted
	told(2, behind(some[:4], doubts(1, 1, 1, 0, 0)), suspicion(0, 0))
	told(3, []api.Event{doubts(0, 1, 1, 1, 0)}, suspicion(1, 0))
	told(3, []api.Event{doubts(0, 1, 1, 1, api.MaxTag), doubts(0, 1, 1, 1, 5)}, suspicion(1, api.MaxTag))
	// No law is asked for: one's own, of no life, of no round, out of order.
	told(3, []api.Event{{Kind: api.EventDoubt, Node: 1, Life: -4, Round: -9, Of: 1, Tag: 2, Durable: -1, Heard: upTo(128), Union: upTo(128)}, doubts(0, 0, 0, 0, 0)}, suspicion(0, 0), suspicion(1, 2))
	for _, v := range far() {
		told(3, []api.Event{doubts(v, 1, 1, 1, 0)})
		told(3, []api.Event{doubts(0, 1, 1, v, 0), doubts(0, 1, 1, 2, 1)}, suspicion(2, 1))
	}
	told(3, []api.Event{doubts(3, 1, 1, 1, 0), doubts(0, 1, 1, 3, 0)})
	for _, tag := range []int{math.MinInt, -1, api.MaxTag + 1, math.MaxInt} {
		told(3, []api.Event{doubts(0, 1, 1, 1, tag)})
		told(3, []api.Event{doubts(0, 1, 1, 1, tag), doubts(0, 1, 1, 1, 6), doubts(0, 1, 1, 1, tag)}, suspicion(1, 6))
	}
	for _, kind := range []int{0, 1, 2, 3, 5, 6, 7, -1, 1<<32 | api.EventDoubt} {
		told(3, []api.Event{{Kind: kind, Node: 0, Life: 1, Round: 1, Of: 1, Tag: 2}})
	}
	told(api.MaxNodes, []api.Event{doubts(99, 1, 1, 98, 1), doubts(98, 1, 1, 99, 2)}, suspicion(98, 1), suspicion(99, 2))
}

// TestNothingIsTouched: what is handed in is neither changed nor kept, its spare room neither; what is answered is new memory.
func TestNothingIsTouched(t *testing.T) {
	l := behind(closed(), doubts(0, 1, 1, 2, 3), asks(0, 1, 2), falls(2, 1), begins(2, 2, 9, 4))
	room := append(slices.Clone(l), make([]api.Event, 8)...)
	for i := len(l); i < len(room); i++ {
		room[i] = api.Event{Kind: 77, Node: i}
	}
	was := slices.Clone(room)
	given := room[:len(l)]
	lawful(t, 3, 1, given...)
	lives, _ := audit.Lives(3, given)
	greatest, _ := audit.Doubts(3, given)
	if !slices.Equal(room, was) {
		t.Errorf("%v has become %v", was, room)
	}
	if !slices.Equal(lives, []int{1, 1, 2}) || !slices.Equal(greatest, []api.Notice{suspicion(2, 3)}) {
		t.Errorf("%v, %v", lives, greatest)
	}
	lives[0], greatest[0].Tag = 9, 9
	for i := range given {
		given[i] = api.Event{Kind: 7}
	}
	again, _ := audit.Lives(3, l)
	more, _ := audit.Doubts(3, l)
	if !slices.Equal(again, []int{1, 1, 2}) || !slices.Equal(more, []api.Notice{suspicion(2, 3)}) {
		t.Errorf("asked again: %v, %v", again, more)
	}
	offends(t, 3, 1, 0, given...)
	lawful(t, 3, 1, l...)
}

// TestLong: a history may be long.
func TestLong(t *testing.T) {
	l := three()
	for round := 1; round <= 200000; round++ {
		l = append(l, closes(1, 1, round, of(1, 2), of(1, 2)), doubts(1, 1, round, 0, 0), asks(1, 1, round+1))
	}
	lawful(t, 3, 1, l...)
	offends(t, 3, 1, len(l)-1, l[:len(l)-1]...)
	lastOffends(t, 3, 1, append(l, asks(1, 1, 200000))...)
}
