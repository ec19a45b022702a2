package glyph

import "earshot/api"

// Class tells a rune's class.
func Class(r rune) int {
	switch {
	case r == '\t', r == '\r', r == ' ':
		return api.ClassBlank
	case r == '\n':
		return api.ClassEnd
	case within(r, '0', '9'):
		return api.ClassDigit
	case isLetter(r):
		return api.ClassLetter
	case within(r, '!', '~'):
		return api.ClassMark
	default:
		return api.ClassOther
	}
}

func isLetter(r rune) bool {
	switch {
	case within(r, 'A', 'Z'), within(r, 'a', 'z'):
		return true
	case r == 0xD7, r == 0xF7, within(r, 0x300, 0x36F), r == 0x1680:
		return false
	case within(r, 0xC0, 0x1FFF), within(r, 0x3041, 0xD7A3), within(r, 0x1F300, 0x1FAFF):
		return true
	default:
		return false
	}
}

// within tells whether r is one of first to last.
func within(r, first, last rune) bool { return first <= r && r <= last }
