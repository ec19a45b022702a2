package wire

import (
	"earshot/api"
	"earshot/idset"
	"earshot/notice"
)

// How a note begins.
const (
	magic     = 0x6573
	magicSize = 2
)

// How many bytes the greater fields have; all others have one.
const (
	roundSize  = 5
	tagSize    = 3
	noticeSize = 1 + 1 + tagSize
	sumSize    = 4
)

// sumBase is what the two halves of a sum are counted round by.
const sumBase = 65521

// fields are those of any note; what its kind lacks is zero.
type fields struct {
	kind, from, round int
	heard             api.Set
	news              []api.Notice
}

// hasRound tells whether notes of a kind have a round.
func hasRound(kind int) bool { return kind != api.NoteRumor }

// hasHeard tells whether notes of a kind tell who was heard.
func hasHeard(kind int) bool { return kind == api.NoteReply }

// heardSize tells how many bytes a set of n nodes has.
func heardSize(n int) int { return (n + 7) / 8 }

// isSize tells whether there may be n nodes.
func isSize(n int) bool { return n >= 1 && n <= api.MaxNodes }

// isRound tells whether a round may have that number.
func isRound(round int) bool { return round >= 1 && round <= api.MaxRound }

// note tells the note that has these fields.
func (f fields) note() Note {
	switch f.kind {
	case api.NoteQuery:
		return Query{From: f.from, Round: f.round, News: f.news}
	case api.NoteReply:
		return Reply{From: f.from, Round: f.round, Heard: f.heard, News: f.news}
	default:
		return Rumor{From: f.from, News: f.news}
	}
}

// fault tells why n nodes can't have such a note.
func (f fields) fault(n int) api.Errno {
	switch {
	case !isSize(n):
		return api.ErrArg
	case f.from < 0 || f.from >= n:
		return api.ErrFrom
	case hasRound(f.kind) && !isRound(f.round):
		return api.ErrRound
	case !idset.Within(f.heard, n):
		return api.ErrHeard
	case !notice.Rising(n, f.news):
		return api.ErrNews
	default:
		return api.OK
	}
}

// bytes tells the form of a note of n nodes.
func (f fields) bytes(n int) ([]byte, api.Errno) {
	if e := f.fault(n); e != api.OK {
		return nil, e
	}
	b := addNumber(nil, magic, magicSize)
	b = append(b, byte(f.kind), byte(n), byte(f.from))
	if hasRound(f.kind) {
		b = addNumber(b, f.round, roundSize)
	}
	if hasHeard(f.kind) {
		b = addSet(b, f.heard, n)
	}
	b = append(b, byte(len(f.news)))
	for _, x := range f.news {
		b = append(b, byte(x.Of), byte(x.Kind))
		b = addNumber(b, x.Tag, tagSize)
	}
	return addNumber(b, Sum(b), sumSize), api.OK
}

// addNumber puts a number of so many bytes behind others, its highest byte first.
func addNumber(b []byte, v, size int) []byte {
	for i := range size {
		b = append(b, byte(v>>(8*(size-1-i))))
	}
	return b
}

// addSet puts a set of n nodes behind other bytes, its least ids first.
func addSet(b []byte, s api.Set, n int) []byte {
	for i := range heardSize(n) {
		b = append(b, byte(s[i/4]>>(8*(i%4))))
	}
	return b
}

// numberOf tells the number that addNumber wrote so.
func numberOf(b []byte) int {
	v := 0
	for _, x := range b {
		v = v<<8 | int(x)
	}
	return v
}

// setOf tells the set that addSet wrote so.
func setOf(b []byte) api.Set {
	var s api.Set
	for i, x := range b {
		s[i/4] |= uint32(x) << (8 * (i % 4))
	}
	return s
}

// Sum tells the sum of some bytes.
func Sum(b []byte) int {
	p, q := 1, 0
	for _, x := range b {
		p = (p + int(x)) % sumBase
		q = (q + p) % sumBase
	}
	return q<<16 + p
}
