package earshot

import (
	"strings"

	"earshot/api"
	"earshot/script"
)

// indent stands ahead of what belongs to the line above it.
const indent = "  "

// transcript gathers lines.
type transcript struct{ lines []string }

// add gathers a line of words.
func (t *transcript) add(words ...string) { t.lines = append(t.lines, strings.Join(words, " ")) }

// under gathers a line of words that belongs to the one above it.
func (t *transcript) under(words ...string) { t.add(indent + strings.Join(words, " ")) }

// text tells all lines, each with its end.
func (t *transcript) text() string { return strings.Join(append(t.lines, ""), "\n") }

// writer puts what happens to some nodes into a transcript.
type writer struct {
	*transcript
	names
}

// start writes how all begins.
func (w writer) start(events []api.Event) {
	w.add("start")
	w.events(events)
}

// step writes a step by its number, and what came of it.
func (w writer) step(i int, s api.Step, a api.Answer) {
	words := []string{number(i) + ":", script.Line(w.Roster, s)}
	if a.Code != api.OK {
		words = append(words, "refused", number(int(a.Code)))
	}
	w.add(words...)
	w.events(a.Events)
	if s.Kind == api.StepTurn {
		w.under(append([]string{"polls"}, codes(a.Polls)...)...)
	}
}

func (w writer) events(l []api.Event) {
	for _, e := range l {
		w.under(Event(w.Roster, e))
	}
}

// codes tells errors as numbers.
func codes(l []api.Errno) []string {
	var words []string
	for _, e := range l {
		words = append(words, number(int(e)))
	}
	return words
}

// end writes what is seen of the nodes at last, by rising ids.
func (w writer) end(l []api.Sight) {
	w.add("end")
	for id, s := range l {
		w.sight(id, s)
	}
}

func (w writer) sight(id int, s api.Sight) {
	if !s.Up {
		w.under(w.sign(id), "down")
		return
	}
	w.under(w.sign(id), "up",
		"life", number(s.Life), "round", number(s.Round), "tag", number(s.Tag),
		"suspects", w.set(s.Suspects), "heard", w.set(s.Heard), "repliers", w.set(s.Repliers))
}

// bag writes the datagrams that are under way still.
func (w writer) bag(l []api.Gram) {
	w.add("bag", number(len(l)))
	for _, g := range l {
		w.under(w.sender(g.From), "to", w.sign(g.To), w.says(g.Data))
	}
}
