package word

import (
	"earshot/api"
	"earshot/glyph"
)

// What may begin at a character beside the words, whose kinds are api's.
const (
	fault  = 0
	gap    = -1
	remark = -2
)

// kindAt tells what begins at the character r, if it stands outside of all words.
func kindAt(r rune) int {
	kinds := [...]int{
		api.ClassBlank:  gap,
		api.ClassEnd:    fault,
		api.ClassDigit:  api.TokenNumber,
		api.ClassLetter: api.TokenName,
		api.ClassMark:   api.TokenMark,
		api.ClassOther:  fault,
	}
	switch r {
	case '"':
		return api.TokenText
	case '#':
		return remark
	default:
		return kinds[glyph.Class(r)]
	}
}

// cut hands a line's words to take, one by one, without its end, until that answers false; with an error it tells its column. A byte 10 is no more to it than a character at which no word begins: whoever has lines parts the text at these first.
func cut(line string, take func(api.Token) bool) (api.Errno, int) {
	var kind, size, chars int
	var e api.Errno
	col := 0
	next := 0 // the byte behind the last word
	for at, r := range line {
		col++
		if at < next {
			continue
		}
		kind = kindAt(r)
		switch kind {
		case gap:
			continue
		case remark:
			goto end
		case api.TokenName:
			goto name
		case api.TokenNumber:
			goto digits
		case api.TokenText:
			goto text
		case api.TokenMark:
			size = 1
			goto word
		default:
			e = api.ErrChar
			goto refuse
		}

	name:
		size, chars = run(line[at:])
		if chars > api.MaxName {
			e = api.ErrName
			goto refuse
		}
		goto word

	digits:
		size, _ = run(line[at:])
		_, e = Number(line[at : at+size])
		if e != api.OK {
			goto refuse
		}
		goto word

	text:
		_, size, e = glyph.Leading(line[at:])
		if e != api.OK {
			col += glyph.Count(line[at : at+size])
			goto refuse
		}

	word:
		next = at + size
		if !take(api.Token{Kind: kind, Text: line[at:next], Col: col}) {
			goto end
		}
	}

end:
	return api.OK, 0

refuse:
	return e, col
}

// run tells how many bytes and characters the letters and digits have that s begins with.
func run(s string) (size, chars int) {
	for at, r := range s {
		switch glyph.Class(r) {
		case api.ClassLetter, api.ClassDigit:
			chars++
		default:
			return at, chars
		}
	}
	return len(s), chars
}
