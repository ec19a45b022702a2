package script

import (
	"strconv"

	"earshot/api"
	"earshot/glyph"
	"earshot/roster"
	"earshot/word"
)

// shape is what words a kind of step has: its name, and the parts behind that.
type shape struct {
	kind  int
	name  string
	parts []part
}

// part is a word behind a step's name, and what of the step it says.
type part struct {
	fits func(w api.Token) bool                   // whether such a word can stand there
	read func(w api.Token, s *api.Step) api.Errno // puts what the word says into s
	take func(s *api.Step) bool                   // whether a word says what s has; s has it no more then
	word func(s api.Step) string                  // that word, however long it is
}

// table has the shapes of all steps, among the nodes r.
func table(r roster.Roster) []shape {
	node, data := nodePart(r), dataPart()
	a := numberPart(func(s *api.Step) *int { return &s.A })
	b := numberPart(func(s *api.Step) *int { return &s.B })
	c := numberPart(func(s *api.Step) *int { return &s.C })
	return []shape{
		{kind: api.StepPoll, name: "poll", parts: []part{node}},
		{kind: api.StepCrash, name: "crash", parts: []part{node}},
		{kind: api.StepRestart, name: "restart", parts: []part{node}},
		{kind: api.StepFuse, name: "fuse", parts: []part{node, b}},
		{kind: api.StepDeliver, name: "deliver", parts: []part{a}},
		{kind: api.StepDrop, name: "drop", parts: []part{a}},
		{kind: api.StepDouble, name: "double", parts: []part{a}},
		{kind: api.StepFlush, name: "flush", parts: []part{a}},
		{kind: api.StepTurn, name: "turn", parts: []part{a}},
		{kind: api.StepMove, name: "move", parts: []part{a, b}},
		{kind: api.StepSpoil, name: "spoil", parts: []part{a, b, c}},
		{kind: api.StepForge, name: "forge", parts: []part{node, data}},
	}
}

// nodePart is the sign of the node A.
func nodePart(r roster.Roster) part {
	return part{
		fits: isSign,
		read: func(w api.Token, s *api.Step) (e api.Errno) {
			c, _ := glyph.Nth(w.Text, 0)
			s.A, e = r.Id(c.Rune)
			return e
		},
		take: func(s *api.Step) bool {
			_, e := r.Sign(s.A)
			s.A = 0
			return e == api.OK
		},
		word: func(s api.Step) string {
			sign, _ := r.Sign(s.A)
			return string(sign)
		},
	}
}

// numberPart is the number in a field of a step.
func numberPart(field func(s *api.Step) *int) part {
	return part{
		fits: isNumber,
		read: func(w api.Token, s *api.Step) (e api.Errno) {
			*field(s), e = word.Number(w.Text)
			return e
		},
		take: func(s *api.Step) bool {
			v := *field(s)
			*field(s) = 0
			return canWrite(v)
		},
		word: func(s api.Step) string { return strconv.Itoa(*field(&s)) },
	}
}

// dataPart is the quoted text of a step's bytes.
func dataPart() part {
	return part{
		fits: isText,
		read: func(w api.Token, s *api.Step) api.Errno {
			says, _, e := glyph.Unquote(w.Text)
			s.Data = []byte(says)
			return e
		},
		take: func(s *api.Step) bool {
			s.Data = nil
			return true
		},
		word: func(s api.Step) string { return glyph.Quoted(string(s.Data)) },
	}
}

// canWrite tells whether a number in a text can have the value v.
func canWrite(v int) bool { return v >= 0 && v <= api.MaxNumber }

func isSign(w api.Token) bool { return w.Kind == api.TokenName && glyph.Count(w.Text) == 1 }

func isNumber(w api.Token) bool { return w.Kind == api.TokenNumber }

func isText(w api.Token) bool { return w.Kind == api.TokenText }

// isName tells whether a word is just this name: only a name has such a text.
func isName(name string) func(w api.Token) bool {
	return func(w api.Token) bool { return w.Text == name }
}
