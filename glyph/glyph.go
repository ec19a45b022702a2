// Package glyph goes through texts by characters, tells their classes, and quotes texts.
package glyph

import (
	"iter"
	"strings"
	"unicode/utf8"

	"earshot/api"
)

// Chars tells a text's characters.
func Chars(s string) ([]api.Char, api.Errno) {
	if len(s) > api.MaxText {
		return nil, api.ErrLong
	}
	var list []api.Char
	for c := range each(s) {
		list = append(list, c)
	}
	return list, api.OK
}

// Count tells how many there are.
func Count(s string) int {
	count := 0
	for range s {
		count++
	}
	return count
}

// Nth tells one of them.
func Nth(s string, i int) (api.Char, api.Errno) {
	count := 0
	for c := range each(s) {
		if count == i {
			return c, api.OK
		}
		count++
	}
	return api.Char{}, api.ErrIndex
}

// Cut tells some of them, as a text.
func Cut(s string, from, to int) (string, api.Errno) {
	begin, end := begins(s, from), begins(s, to)
	// Places rise with their characters, and -1 is below them all: so this meets a `to` below `from`, or too great, as well.
	if begin < 0 || end < begin {
		return "", api.ErrIndex
	}
	return strings.Clone(s[begin:end]), api.OK
}

// Plain tells whether no byte is loose.
func Plain(s string) bool {
	for c := range each(s) {
		if c.Loose {
			return false
		}
	}
	return true
}

// Mend puts U+FFFD in the place of each loose byte.
func Mend(s string) string {
	var out strings.Builder
	for _, r := range s {
		out.WriteRune(r) // of a loose byte, r is U+FFFD already
	}
	return out.String()
}

// Back tells the characters from the last one on.
func Back(s string) string {
	out := make([]byte, len(s))
	for c := range each(s) {
		end := c.At + c.Size
		copy(out[len(s)-end:], s[c.At:end])
	}
	return string(out)
}

// All goes through the characters: the byte that each begins at, and its rune.
func All(s string) iter.Seq2[int, rune] {
	return func(yield func(int, rune) bool) {
		for at, r := range s {
			if !yield(at, r) {
				return
			}
		}
	}
}

// each goes through the characters, with all that is told of one.
func each(s string) iter.Seq[api.Char] {
	return func(yield func(api.Char) bool) {
		for at, r := range All(s) {
			if !yield(charAt(s, at, r)) {
				return
			}
		}
	}
}

// charAt tells the character of s that begins at the byte at, and has the rune r.
func charAt(s string, at int, r rune) api.Char {
	if looseAt(s, at, r) {
		return api.Char{Rune: r, At: at, Size: 1, Loose: true}
	}
	return api.Char{Rune: r, At: at, Size: utf8.RuneLen(r)}
}

// looseAt tells whether the character of s at the byte at, with the rune r, is a loose byte: a text may well have a U+FFFD of its own.
func looseAt(s string, at int, r rune) bool {
	return r == utf8.RuneError && !strings.HasPrefix(s[at:], string(utf8.RuneError))
}

// begins tells the byte that the character i begins at, of i = Count(s) the length of s; -1 if i is no such place.
func begins(s string, i int) int {
	count := 0
	for at := range s {
		if count == i {
			return at
		}
		count++
	}
	if count == i {
		return len(s)
	}
	return -1
}
