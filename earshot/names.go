package earshot

import (
	"slices"
	"strconv"
	"strings"

	"earshot/api"
	"earshot/glyph"
	"earshot/roster"
	"earshot/tell"
	"earshot/wire"
)

// unknown stands where nothing better can be said: for a sender that is no node, ahead of bytes that are no note.
const unknown = "?"

// names writes by the nodes' signs. What can't be written is an empty text: all else has a character at least.
type names struct{ roster.Roster }

// phrase joins words; where one of them can't be written, nothing is.
func phrase(words ...string) string {
	if slices.Contains(words, "") {
		return ""
	}
	return strings.Join(words, " ")
}

// number tells a number in digits.
func number(v int) string {
	if v < 0 {
		return ""
	}
	return strconv.Itoa(v)
}

// sign tells the sign of a node.
func (n names) sign(id int) string {
	sign, e := n.Sign(id)
	if e != api.OK {
		return ""
	}
	return string(sign)
}

// set tells a set by its nodes' signs.
func (n names) set(s api.Set) string {
	text, _ := n.Print(s) // empty beside an error
	return text
}

// sender tells who has sent a datagram.
func (n names) sender(id int) string {
	sign := n.sign(id)
	if sign == "" {
		return unknown
	}
	return sign
}

// says tells what a datagram's bytes say.
func (n names) says(data []byte) string {
	x, e := wire.Decode(data, n.Size())
	if e != api.OK {
		return phrase(unknown, glyph.Quoted(string(data)))
	}
	return n.note(x)
}

// note tells a note that came of bytes: so none of its texts is refused.
func (n names) note(x wire.Note) string {
	if q, is := x.(wire.Query); is {
		text, _ := tell.Query(n.Roster, q)
		return text
	}
	if q, is := x.(wire.Reply); is {
		text, _ := tell.Reply(n.Roster, q)
		return text
	}
	// There is no fourth kind: this never panics.
	text, _ := tell.Rumor(n.Roster, x.(wire.Rumor))
	return text
}
