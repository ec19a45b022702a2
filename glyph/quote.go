package glyph

import (
	"iter"
	"strconv"
	"strings"
	"unicode/utf8"

	"earshot/api"
)

// maxDigits is how many digits a `\u{..}` may have.
const maxDigits = 6

// quote is what a quoted text begins and ends with.
const quote = `"`

// Quote tells a text's quoted text.
func Quote(s string) (string, api.Errno) {
	var out strings.Builder
	for part := range parts(s) {
		out.WriteString(part)
		// Looked at here, so that a text of any length costs no more than MaxText.
		if out.Len() > api.MaxText {
			return "", api.ErrLong
		}
	}
	return out.String(), api.OK
}

// Quoted tells a text's quoted text, however long that is. The layers above write lines that have no limit.
func Quoted(s string) string {
	var out strings.Builder
	for part := range parts(s) {
		out.WriteString(part)
	}
	return out.String()
}

// parts goes through what the quoted text of s is made of: a quote, the piece of each character, a quote.
func parts(s string) iter.Seq[string] {
	return func(yield func(string) bool) {
		if !yield(quote) {
			return
		}
		for c := range each(s) {
			if !yield(piece(c, s[c.At:c.At+c.Size])) {
				return
			}
		}
		yield(quote)
	}
}

// piece tells what stands in a quoted text for the character c, whose bytes are own.
func piece(c api.Char, own string) string {
	code := c.Rune
	switch {
	case code == '"', code == '\\':
		return `\` + own
	case code == '\n':
		return `\n`
	case code == '\t':
		return `\t`
	case code == '\r':
		return `\r`
	case c.Loose:
		code = rune(own[0])
		fallthrough
	case isControl(code):
		return `\x` + hexDigits(code>>4) + hexDigits(code&15)
	case isUnseen(code):
		return `\u{` + hexDigits(code) + `}`
	default:
		return own
	}
}

// Unquote tells what a quoted text says; with an error the place of what offends.
func Unquote(lit string) (string, int, api.Errno) {
	if len(lit) > api.MaxText {
		return "", 0, api.ErrLong
	}
	says, size, e := Leading(lit)
	switch {
	case e != api.OK:
		return "", size, e
	case size < len(lit):
		return "", size, api.ErrQuote
	default:
		return says, 0, api.OK
	}
}

// Leading reads the quoted text that s begins with, however long it is, and whatever stands behind it: what it says, and how many bytes it has itself; with an error the place of what offends. The layers above read texts in which more than one stands.
func Leading(s string) (string, int, api.Errno) {
	if !strings.HasPrefix(s, quote) {
		return "", 0, api.ErrQuote
	}
	var says strings.Builder
	next := 1 // the byte behind what has been read: an escape has more than one character
	for at, r := range s {
		switch {
		case at < next:
		case r == '"':
			return says.String(), at + 1, api.OK
		case r == '\\':
			said, size := escape(s[at:])
			if size == 0 {
				return "", at, api.ErrEscape
			}
			says.WriteString(said)
			next = at + size
		case isControl(r), looseAt(s, at, r):
			return "", at, api.ErrRune
		default:
			says.WriteRune(r)
		}
	}
	return "", len(s), api.ErrQuote
}

// escape reads the escape that the rest of a text begins with: the bytes that it says, and how many it has itself, 0 if it is none.
func escape(rest string) (string, int) {
	var code, digit rune
	at, digits := 2, 0

	switch byteAt(rest, 1) {
	case '"', '\\':
		return rest[1:2], 2
	case 'n':
		return "\n", 2
	case 't':
		return "\t", 2
	case 'r':
		return "\r", 2
	case 'x':
		goto pair
	case 'u':
		goto brace
	default:
		goto none
	}

pair:
	digit = hexValue(byteAt(rest, at))
	if digit < 0 {
		goto none
	}
	code = code<<4 | digit
	at++
	digits++
	if digits < 2 {
		goto pair
	}
	return string([]byte{byte(code)}), at

brace:
	if byteAt(rest, at) != '{' {
		goto none
	}
	at++

number:
	digit = hexValue(byteAt(rest, at))
	if digit < 0 {
		goto closing
	}
	if digits == maxDigits {
		goto none
	}
	code = code<<4 | digit
	at++
	digits++
	goto number

closing:
	if digits == 0 || byteAt(rest, at) != '}' || !utf8.ValidRune(code) {
		goto none
	}
	return string(code), at + 1

none:
	return "", 0
}

// byteAt tells a byte of s, behind its end 0, which no escape has: so one that is cut off needs no care of its own.
func byteAt(s string, at int) byte {
	if at < len(s) {
		return s[at]
	}
	return 0
}

// hexValue tells what a hexadecimal digit is worth, -1 if b is none.
func hexValue(b byte) rune {
	switch {
	case '0' <= b && b <= '9':
		return rune(b - '0')
	case 'a' <= b && b <= 'f':
		return rune(b-'a') + 10
	case 'A' <= b && b <= 'F':
		return rune(b-'A') + 10
	default:
		return -1
	}
}

// hexDigits tells a number in small hexadecimal digits.
func hexDigits(v rune) string { return strconv.FormatInt(int64(v), 16) }

// isControl tells whether r may not stand in a quoted text as it is.
func isControl(r rune) bool { return r < 32 || r == 127 }

// isUnseen tells whether r would not be seen, or would turn what stands about it.
func isUnseen(r rune) bool {
	return within(r, 0x80, 0x9F) || within(r, 0x200B, 0x200F) || within(r, 0x2028, 0x202E) || r == 0xFEFF
}
