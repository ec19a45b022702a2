package script

import (
	"iter"
	"slices"
	"strconv"
	"strings"

	"earshot/api"
	"earshot/glyph"
	"earshot/roster"
)

// writer has the shapes of what it writes.
type writer struct{ shapes []shape }

// writerOf makes a writer of a script with these rules; it gives up, if no text says them.
func writerOf(r api.Rules) writer {
	nodes, _, e := roster.Read(r.Signs)
	refuseIf(e != api.OK || !canWrite(r.F), api.ErrScript, 0)
	return writer{shapes: table(nodes)}
}

// place tells where the shape of a kind stands, -1 if it is none.
func (x writer) place(kind int) int {
	return slices.IndexFunc(x.shapes, func(y shape) bool { return y.kind == kind })
}

// says tells whether some words say just this step.
func (x writer) says(s api.Step) bool {
	at := x.place(s.Kind)
	return at >= 0 && x.shapes[at].says(s)
}

// words tells the words of a step that they say.
func (x writer) words(s api.Step) []string { return x.shapes[x.place(s.Kind)].words(s) }

// check gives up, if no text says just these steps.
func (x writer) check(steps []api.Step) {
	for _, s := range steps {
		refuseIf(!x.says(s), api.ErrScript, 0)
	}
}

// says tells whether words of this shape say all of s.
func (y shape) says(s api.Step) bool {
	for _, p := range y.parts {
		if !p.take(&s) {
			return false
		}
	}
	return s.A == 0 && s.B == 0 && s.C == 0 && len(s.Data) == 0
}

// lines goes through the words of each line of a script.
func (x writer) lines(r api.Rules, steps []api.Step) iter.Seq[[]string] {
	return func(yield func([]string) bool) {
		// A roster's signs are letters, and few: Quote refuses none.
		signs, _ := glyph.Quote(r.Signs)
		if !yield([]string{nodesName, signs, faultsName, strconv.Itoa(r.F)}) {
			return
		}
		for _, s := range steps {
			if !yield(x.words(s)) {
				return
			}
		}
	}
}

// words tells the words of a step that they say.
func (y shape) words(s api.Step) []string {
	l := []string{y.name}
	for _, p := range y.parts {
		l = append(l, p.word(s))
	}
	return l
}

// write puts a line of words behind a text; it gives up, if that is too long then.
func write(out *strings.Builder, words ...string) {
	out.WriteString(join(words...))
	out.WriteByte('\n')
	refuseIf(out.Len() > api.MaxText, api.ErrLong, 0)
}

// join tells a line of words, without its end.
func join(words ...string) string { return strings.Join(words, " ") }

// hasTooMuch tells whether a step's bytes alone are more than a text may have.
func hasTooMuch(s api.Step) bool { return len(s.Data) > api.MaxText }
