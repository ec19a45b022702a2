package wire

import (
	"earshot/api"
	"earshot/idset"
	"earshot/notice"
)

// refusal is the error with which the reading of a note gives up: a type of its own, so that nothing else is taken for it.
type refusal api.Errno

// refuseIf gives up the reading, if the field that was read offends.
func refuseIf(offends bool, e api.Errno) {
	if offends {
		panic(refusal(e))
	}
}

// Decode tells the note of some bytes.
func Decode(b []byte, n int) (x Note, e api.Errno) {
	switch {
	case !isSize(n):
		return nil, api.ErrArg
	case len(b) > api.MaxData:
		return nil, api.ErrLong
	}
	// Nothing else panics below: the reader looks how many bytes are left ahead of each field.
	defer func() {
		if why, is := recover().(refusal); is {
			x, e = nil, api.Errno(why)
		}
	}()
	r := &reader{all: b}
	f := r.fields(n)
	r.end()
	return f.note(), api.OK
}

// reader takes the fields of a note off its bytes, from the front.
type reader struct {
	all []byte
	at  int // how many bytes are read
}

// take tells the next field's bytes.
func (r *reader) take(size int) []byte {
	refuseIf(len(r.all)-r.at < size, api.ErrShort)
	r.at += size
	return r.all[r.at-size : r.at]
}

// number tells the next field's number.
func (r *reader) number(size int) int { return numberOf(r.take(size)) }

// fields reads all that stands ahead of the sum.
func (r *reader) fields(n int) fields {
	var f fields
	refuseIf(r.number(magicSize) != magic, api.ErrMagic)
	f.kind = r.number(1)
	refuseIf(f.kind < api.NoteQuery || f.kind > api.NoteRumor, api.ErrKind)
	refuseIf(r.number(1) != n, api.ErrSize)
	f.from = r.number(1)
	refuseIf(f.from >= n, api.ErrFrom)
	if hasRound(f.kind) {
		f.round = r.number(roundSize)
		refuseIf(!isRound(f.round), api.ErrRound)
	}
	if hasHeard(f.kind) {
		f.heard = setOf(r.take(heardSize(n)))
		refuseIf(!idset.Within(f.heard, n), api.ErrHeard)
	}
	f.news = r.news(n)
	return f
}

// news reads the notices and how many they are.
func (r *reader) news(n int) []api.Notice {
	count := r.number(1)
	refuseIf(count > n, api.ErrNews)
	var l []api.Notice
	ahead := -1
	for range count {
		b := r.take(noticeSize)
		x := api.Notice{Of: int(b[0]), Kind: int(b[1]), Tag: numberOf(b[2:])}
		refuseIf(!notice.Valid(n, x) || x.Of <= ahead, api.ErrNews)
		l = append(l, x)
		ahead = x.Of
	}
	return l
}

// end reads the sum, behind which nothing may stand.
func (r *reader) end() {
	sum := Sum(r.all[:r.at])
	refuseIf(r.number(sumSize) != sum, api.ErrSum)
	refuseIf(r.at < len(r.all), api.ErrLong)
}
