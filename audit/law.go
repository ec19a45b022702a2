package audit

import (
	"earshot/api"
	"earshot/idset"
)

// offence is what a hearing gives up with: a type of its own, so that nothing else is taken for it.
type offence struct{ at int }

// node is what the events so far say of a node.
type node struct {
	up    bool
	life  int // the last one that has begun
	tag   int
	open  int
	asked int // the greatest round that it has asked
}

// row is an EventClose and what stands behind it, up to the EventAsk that ends it; zero, where none is under way.
type row struct {
	closed api.Event
	last   int // whom it has doubted last; nobody: -1
}

// hearing goes through a history, event by event.
type hearing struct {
	need  int // how many nodes a quorum has
	at    int // the place of the event that is looked at
	nodes []node
	row   row
}

// must gives up the hearing at the event that is looked at, if something does not hold.
func (h *hearing) must(hold bool) {
	if !hold {
		panic(offence{at: h.at})
	}
}

// laws tells by the kind of an event what must hold of it.
func (h *hearing) laws() map[int]func(api.Event) {
	return map[int]func(api.Event){
		api.EventBegin:  h.begin,
		api.EventAsk:    h.ask,
		api.EventClose:  h.close,
		api.EventDoubt:  h.doubt,
		api.EventDefend: h.defend,
		api.EventDown:   h.down,
	}
}

// history goes through all events, row by row; each that is in none stands alone.
func (h *hearing) history(l []api.Event) {
	laws := h.laws()
rows:
	for ; h.at < len(l); h.at++ {
		h.event(l[h.at], laws[l[h.at].Kind])
		if l[h.at].Kind != api.EventClose {
			continue
		}
		for h.at++; h.at < len(l); h.at++ {
			h.event(l[h.at], laws[l[h.at].Kind])
			if l[h.at].Kind == api.EventAsk {
				continue rows
			}
		}
		// A row that nothing ends offends behind the last event.
		h.must(false)
	}
}

// event looks at what must hold of each event, then at the law of its kind: nil, if it is of none.
func (h *hearing) event(x api.Event, law func(api.Event)) {
	h.must(law != nil && isBelow(x.Node, len(h.nodes)) && x.Life >= 1 && x.Life <= api.MaxLife)
	h.must(x == bare(x))
	h.must(h.follows(x))
	own := h.nodes[x.Node]
	h.must(x.Kind == api.EventBegin || own.up && own.life == x.Life)
	law(x)
}

// follows tells whether an event may stand behind the one ahead of it.
func (h *hearing) follows(x api.Event) bool {
	if !h.inRow() {
		return x.Kind != api.EventDoubt
	}
	return x.Node == h.row.closed.Node && (x.Kind == api.EventDoubt || x.Kind == api.EventAsk)
}

// inRow tells whether a row is under way.
func (h *hearing) inRow() bool { return h.row.closed.Kind == api.EventClose }

// bare tells an event with nothing but what its kind has.
func bare(x api.Event) api.Event {
	b := api.Event{Kind: x.Kind, Node: x.Node, Life: x.Life}
	switch x.Kind {
	case api.EventBegin:
		b.Round, b.Tag = x.Round, x.Tag
	case api.EventAsk:
		b.Round = x.Round
	case api.EventClose:
		b.Round, b.Heard, b.Union = x.Round, x.Heard, x.Union
	case api.EventDoubt:
		b.Of, b.Tag, b.Round = x.Of, x.Tag, x.Round
	case api.EventDefend:
		b.Tag, b.Durable = x.Tag, x.Durable
	}
	return b
}

// begin: a life is behind all earlier ones, and so are its round and its tag.
func (h *hearing) begin(x api.Event) {
	own := &h.nodes[x.Node]
	h.must(!own.up && x.Life > own.life)
	// Ahead of the first life the round 0 counts as asked: so none is below 1.
	h.must(x.Round > own.asked && x.Round <= api.MaxRound)
	h.must(x.Tag >= own.tag && x.Tag <= api.MaxTag)
	own.up, own.life, own.tag, own.open = true, x.Life, x.Tag, x.Round
}

// ask: at the end of a row a greater round is opened; else the open one is asked.
func (h *hearing) ask(x api.Event) {
	own := &h.nodes[x.Node]
	if h.inRow() {
		h.must(x.Round > h.row.closed.Round && x.Round <= api.MaxRound)
		own.open, h.row = x.Round, row{}
	}
	h.must(x.Round == own.open)
	// A node's open rounds rise, so it has asked none that is greater.
	own.asked = x.Round
}

// close: a quorum, the node among it, has replied to the open round; a row begins.
func (h *hearing) close(x api.Event) {
	n := len(h.nodes)
	h.must(x.Round == h.nodes[x.Node].open)
	h.must(idset.Within(x.Heard, n) && idset.Count(x.Heard) == h.need && idset.Has(x.Heard, x.Node))
	h.must(idset.Within(x.Union, n) && idset.Subset(x.Heard, x.Union))
	h.row = row{closed: x, last: -1}
}

// doubt: whoever is doubted is none of those that the row's quorum has heard.
func (h *hearing) doubt(x api.Event) {
	closed := h.row.closed
	h.must(isBelow(x.Of, len(h.nodes)) && x.Of > h.row.last && !idset.Has(closed.Union, x.Of))
	h.must(x.Tag >= 0 && x.Tag <= api.MaxTag && x.Round == closed.Round)
	h.row.last = x.Of
}

// defend: the tag is raised, and durable.
func (h *hearing) defend(x api.Event) {
	own := &h.nodes[x.Node]
	h.must(x.Tag > own.tag && x.Durable >= x.Tag && x.Durable <= api.MaxTag)
	own.tag = x.Tag
}

// down: the life ends; its number and what it has used stay.
func (h *hearing) down(x api.Event) { h.nodes[x.Node].up = false }
