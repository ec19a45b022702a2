package script

import (
	"iter"
	"slices"

	"earshot/api"
	"earshot/glyph"
	"earshot/roster"
	"earshot/word"
)

// lines goes through the lines of a text that have words; it gives up at what is no word.
func lines(text string) iter.Seq[[]api.Token] {
	return func(yield func([]api.Token) bool) {
		words, e, line, _ := word.Scan(text)
		refuseIf(e != api.OK, e, line)
		for _, l := range word.Lines(words) {
			if !yield(l) {
				return
			}
		}
	}
}

// reader has what the lines have said so far.
type reader struct {
	rules  api.Rules
	shapes []shape
	steps  []api.Step
}

// begun tells whether the line of the rules has come.
func (x *reader) begun() bool { return x.shapes != nil }

// line reads a line's words; it gives up, if that offends.
func (x *reader) line(words ...api.Token) {
	if x.begun() {
		x.step(words[0], words[1:]...)
	} else {
		x.head(words...)
	}
}

// head reads the line of the rules.
func (x *reader) head(words ...api.Token) {
	line := words[0].Line
	refuseIf(!fit(words, isName(nodesName), isText, isName(faultsName), isNumber), api.ErrScript, line)
	// Of words that Scan has told neither of these two is ever refused.
	signs, _, _ := glyph.Unquote(words[1].Text)
	faults, _ := word.Number(words[3].Text)
	r, _, e := roster.Read(signs)
	refuseIf(e != api.OK, e, line)
	x.rules = api.Rules{Signs: signs, F: faults}
	x.shapes = table(r)
}

// step reads the line of a step: its name, and the words behind that.
func (x *reader) step(name api.Token, words ...api.Token) {
	line := name.Line
	at := slices.IndexFunc(x.shapes, func(y shape) bool { return isName(y.name)(name) })
	refuseIf(at < 0, api.ErrScript, line)
	y := x.shapes[at]
	refuseIf(!fit(words, y.fits()...), api.ErrScript, line)
	s := api.Step{Kind: y.kind}
	for i, p := range y.parts {
		e := p.read(words[i], &s)
		refuseIf(e != api.OK, e, line)
	}
	refuseIf(len(x.steps) >= api.MaxSteps, api.ErrLong, line)
	x.steps = append(x.steps, s)
}

// fits tells what each word behind a step's name has to be.
func (y shape) fits() []func(api.Token) bool {
	var l []func(api.Token) bool
	for _, p := range y.parts {
		l = append(l, p.fits)
	}
	return l
}

// fit tells whether the words are as they are wanted, one by one, and as many.
func fit(words []api.Token, wanted ...func(api.Token) bool) bool {
	if len(words) != len(wanted) {
		return false
	}
	for i, fits := range wanted {
		if !fits(words[i]) {
			return false
		}
	}
	return true
}
