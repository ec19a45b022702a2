package glyph_test

import (
	"fmt"
	"regexp"
	"strconv"
	"strings"
	"testing"
	"unicode/utf8"

	"earshot/api"
	"earshot/glyph"
)

// pieceOf tells, by fmt, a piece as the chapter has it; the character is the one that s has alone.
func pieceOf(s string) string {
	short := map[string]string{"\"": `\"`, "\\": `\\`, "\n": `\n`, "\t": `\t`, "\r": `\r`}
	if p, ok := short[s]; ok {
		return p
	}
	r, _ := utf8.DecodeRuneInString(s)
	switch {
	case len(s) == 1 && (s[0] < 32 || s[0] >= 127):
		return fmt.Sprintf(`\x%02x`, s[0])
	case 0x80 <= r && r <= 0x9F, 0x200B <= r && r <= 0x200F, 0x2028 <= r && r <= 0x202E, r == 0xFEFF:
		return fmt.Sprintf(`\u{%x}`, r)
	}
	return s
}

func TestP107QuoteOfEachByte(t *testing.T) {
	for b := range 256 {
		s := string([]byte{byte(b)})
		want := `"` + pieceOf(s) + `"`
		if got, e := glyph.Quote(s); got != want || e != api.OK {
			t.Errorf("Quote(%q): %s, %d, not %s", s, got, e, want)
		}
	}
}

func TestP107QuoteOfEachRune(t *testing.T) {
	for r := rune(128); r <= utf8.MaxRune; r++ {
		if !utf8.ValidRune(r) {
			continue
		}
		s := string(r)
		want := `"` + pieceOf(s) + `"`
		if got, e := glyph.Quote(s); got != want || e != api.OK {
			t.Fatalf("Quote(%q): %s, %d, not %s", s, got, e, want)
		}
	}
}

func TestP107QuoteExamples(t *testing.T) {
	for text, want := range map[string]string{
		"":                           `""`,
		"é\n\xFF\u200b\"":            `"é\n\xff\u{200b}\""`,
		"\x00\x1F\x7F\t\r\\":         `"\x00\x1f\x7f\t\r\\"`,
		"\u0080\u2028\uFEFF\uFFFD":   `"\u{80}\u{2028}\u{feff}` + "\uFFFD" + `"`,
		"\xE2\x98":                   `"\xe2\x98"`,
		"\u200A\u2010\u2027\u202F ~": "\"\u200A\u2010\u2027\u202F ~\"",
		`\n`:                         `"\\n"`,
	} {
		if got, e := glyph.Quote(text); got != want || e != api.OK {
			t.Errorf("Quote(%q): %s, %d, not %s", text, got, e, want)
		}
	}
}

// TestP107Quoted: it has no limit, and is the same otherwise.
func TestP107Quoted(t *testing.T) {
	for _, text := range []string{"", "a", "é\n\xFF\u200b\"", "\xE2\x98\\", strings.Repeat("a", api.MaxText-2), strings.Repeat("\u0080", api.MaxText), strings.Repeat("\xFFα", 1<<20)} {
		var want strings.Builder
		want.WriteString(`"`)
		for at := 0; at < len(text); {
			_, size := utf8.DecodeRuneInString(text[at:])
			want.WriteString(pieceOf(text[at : at+size]))
			at += size
		}
		want.WriteString(`"`)
		got := glyph.Quoted(text)
		if got != want.String() {
			t.Errorf("Quoted of %d bytes: %d bytes, not %d", len(text), len(got), want.Len())
		}
		lit, e := glyph.Quote(text)
		if e == api.OK && lit != got || (e == api.OK) != (len(got) <= api.MaxText) {
			t.Errorf("Quote of %d bytes: %d bytes, error %d; quoted they are %d", len(text), len(lit), e, len(got))
		}
	}
}

func TestP107QuoteOfLongTexts(t *testing.T) {
	const room = api.MaxText - 2
	for _, c := range []struct {
		text string
		size int
		e    api.Errno
	}{
		{strings.Repeat("a", room), api.MaxText, api.OK},
		{strings.Repeat("a", room+1), 0, api.ErrLong},
		{strings.Repeat("a", room+2), 0, api.ErrLong},
		{strings.Repeat("\n", room/2), api.MaxText, api.OK},
		{strings.Repeat("\n", room/2) + "a", 0, api.ErrLong},
		{strings.Repeat("a", room-3) + "\xFF", 0, api.ErrLong},
		{strings.Repeat("a", room-4) + "\xFF", api.MaxText, api.OK},
		{strings.Repeat("a", room-1) + "é", 0, api.ErrLong},
		{strings.Repeat("a", room-2) + "é", api.MaxText, api.OK},
		{strings.Repeat("☃", api.MaxText), 0, api.ErrLong},
	} {
		got, e := glyph.Quote(c.text)
		if len(got) != c.size || e != c.e {
			t.Errorf("Quote of %d bytes: %d bytes, %d, not %d, %d", len(c.text), len(got), e, c.size, c.e)
		}
		if says, _, _ := glyph.Unquote(got); e == api.OK && says != c.text {
			t.Errorf("Quote of %d bytes says something else", len(c.text))
		}
	}
}

// unquoted is what a call of Unquote tells.
type unquoted struct {
	says string
	at   int
	e    api.Errno
}

func holdUnquote(t *testing.T, lit string, want unquoted) {
	t.Helper()
	says, at, e := glyph.Unquote(lit)
	if got := (unquoted{says, at, e}); got != want {
		t.Errorf("Unquote(%q): %q, %d, %d, not %q, %d, %d", lit, got.says, got.at, got.e, want.says, want.at, want.e)
	}
}

func TestP108UnquoteSays(t *testing.T) {
	for lit, want := range map[string]string{
		`""`:                           "",
		`"\x41\u{e9}"`:                 "Aé",
		`"\"\\\n\t\r"`:                 "\"\\\n\t\r",
		`"\xFF\xfF\xe2\x98"`:           "\xFF\xFF\xE2\x98",
		`"\xe2\x98\x83"`:               "☃",
		`"\u{0}\u{7f}"`:                "\x00\x7F",
		`"\u{10FFFF}\u{10ffff}"`:       "\U0010FFFF\U0010FFFF",
		`"\u{000041}"`:                 "A",
		`"\u{d7ff}\u{E000}"`:           "\uD7FF\uE000",
		`"\x414"`:                      "A4",
		`"\\n"`:                        `\n`,
		`"aé☃🦉"`:                       "aé☃🦉",
		"\"\u0080\u200b\uFEFF\uFFFD\"": "\u0080\u200b\uFEFF\uFFFD",
	} {
		holdUnquote(t, lit, unquoted{says: want})
	}
}

func TestP108EachHexDigit(t *testing.T) {
	for v := range 256 {
		for _, form := range []string{`"\x%02x"`, `"\x%02X"`} {
			holdUnquote(t, fmt.Sprintf(form, v), unquoted{says: string([]byte{byte(v)})})
		}
		for _, form := range []string{`"\u{%x}"`, `"\u{%06X}"`} {
			holdUnquote(t, fmt.Sprintf(form, v), unquoted{says: string(rune(v))})
		}
	}
}

func TestP108NoEscapes(t *testing.T) {
	for _, escape := range []string{
		`\`, `\q`, `\N`, `\0`, `\'`, `\X41`, `\é`, "\\\n", "\\\xFF", "\\\x00",
		`\x`, `\x4`, `\xg0`, `\x0g`, `\x-1`, `\x4:`, `\x4@`, `\x4G`, "\\x4`", `\x4/`, "\\x\xFF",
		`\u`, `\u{`, `\u41`, `\u{}`, `\u{4`, `\u{g}`, `\u{4g}`, `\u{4 }`, `\u(41)`, `\U{41}`,
		`\u{110000}`, `\u{FFFFFF}`, `\u{D800}`, `\u{dfff}`, `\u{dc00}`, `\u{0000041}`, `\u{1000000}`, `\u{00010FFFF}`,
	} {
		// By itself the text's end cuts it off; ahead of a mark of quotes that mark does, but where it makes one.
		holdUnquote(t, `"é`+escape, unquoted{at: 3, e: api.ErrEscape})
		if escape != `\` {
			holdUnquote(t, `"é`+escape+`"`, unquoted{at: 3, e: api.ErrEscape})
			holdUnquote(t, `"é`+escape+"\xFF", unquoted{at: 3, e: api.ErrEscape})
		}
	}
}

func TestP108Runes(t *testing.T) {
	for b := range 256 {
		lit := "\"é" + string([]byte{byte(b)}) + `"`
		switch {
		case b < 32 || b >= 127:
			holdUnquote(t, lit, unquoted{at: 3, e: api.ErrRune})
		case b == '"':
			holdUnquote(t, lit, unquoted{at: 4, e: api.ErrQuote})
		case b == '\\': // that and the closing mark are an escape
			holdUnquote(t, lit, unquoted{at: 5, e: api.ErrQuote})
		default:
			holdUnquote(t, lit, unquoted{says: "é" + string(rune(b))})
		}
	}
}

func TestP108Quotes(t *testing.T) {
	for lit, at := range map[string]int{
		"":           0,
		"a":          0,
		"a\"b\"":     0,
		" \"\"":      0,
		"\xFF\"":     0,
		`\"`:         0,
		`"`:          1,
		`"a`:         2,
		`"é`:         3,
		`"\"`:        3,
		`"\\\"`:      5,
		`"a"b`:       3,
		`""""`:       2,
		`"é""`:       4,
		"\"\"\n":     2,
		"\"\"\xFF":   2,
		`"\x41" "\q`: 6,
	} {
		holdUnquote(t, lit, unquoted{at: at, e: api.ErrQuote})
	}
}

func TestP108TheFirstByItsPlaceDecides(t *testing.T) {
	for lit, want := range map[string]unquoted{
		"\"\\q\n":      {at: 1, e: api.ErrEscape},
		"\"\n\\q":      {at: 1, e: api.ErrRune},
		"\"\\n\xFF\\q": {at: 3, e: api.ErrRune},
		"\"\"\\q\n":    {at: 2, e: api.ErrQuote},
		"\"a\\":        {at: 2, e: api.ErrEscape},
		"\\q":          {at: 0, e: api.ErrQuote},
	} {
		holdUnquote(t, lit, want)
	}
}

func TestP108LongTexts(t *testing.T) {
	inner := strings.Repeat("a", api.MaxText-2)
	holdUnquote(t, `"`+inner+`"`, unquoted{says: inner})
	holdUnquote(t, `"`+inner+`a"`, unquoted{e: api.ErrLong})
	holdUnquote(t, `"`+inner+`a`, unquoted{at: api.MaxText, e: api.ErrQuote})
	holdUnquote(t, strings.Repeat("a", api.MaxText+1), unquoted{e: api.ErrLong})
	holdUnquote(t, strings.Repeat("a", api.MaxText), unquoted{e: api.ErrQuote})
	holdUnquote(t, `"\q`+inner, unquoted{e: api.ErrLong})
}

// TestP108Leading holds what the layers above read quoted texts by: it goes no farther than the closing quote, and has no limit of its own.
func TestP108Leading(t *testing.T) {
	long := `"` + strings.Repeat("é", api.MaxText) + `"`
	for _, c := range []struct {
		text, says string
		size       int
		e          api.Errno
	}{
		{`""`, "", 2, api.OK},
		{`"é\x41" b`, "éA", 8, api.OK},
		{`"a""b"`, "a", 3, api.OK},
		{`"a"` + "\xFF", "a", 3, api.OK},
		{`"\""\q`, `"`, 4, api.OK},
		{long + long, long[1 : len(long)-1], len(long), api.OK},
		{"", "", 0, api.ErrQuote},
		{`a"b"`, "", 0, api.ErrQuote},
		{`"é`, "", 3, api.ErrQuote},
		{`"é\q"b`, "", 3, api.ErrEscape},
		{"\"é\xFF\"b", "", 3, api.ErrRune},
	} {
		says, size, e := glyph.Leading(c.text)
		if says != c.says || size != c.size || e != c.e {
			t.Errorf("Leading(%.40q): %.40q, %d, %d, not %.40q, %d, %d", c.text, says, size, e, c.says, c.size, c.e)
		}
	}
}

// unquoteByForms says, by forms of the library, what Unquote should tell of a text that is not too long.
func unquoteByForms(lit string) unquoted {
	if lit == "" || lit[0] != '"' {
		return unquoted{e: api.ErrQuote}
	}
	says := ""
	for at := 1; at < len(lit); {
		rest := lit[at:]
		r, size := utf8.DecodeRuneInString(rest)
		switch {
		case r == '"' && len(rest) > 1:
			return unquoted{at: at + 1, e: api.ErrQuote}
		case r == '"':
			return unquoted{says: says}
		case r == '\\':
			form := escapeForm.FindString(rest)
			said, ok := sayForm(form)
			if !ok {
				return unquoted{at: at, e: api.ErrEscape}
			}
			says, size = says+said, len(form)
		case r < 32, r == 127, r == utf8.RuneError && size == 1:
			return unquoted{at: at, e: api.ErrRune}
		default:
			says += rest[:size]
		}
		at += size
	}
	return unquoted{at: len(lit), e: api.ErrQuote}
}

var escapeForm = regexp.MustCompile(`^\\(?:["\\ntr]|x[0-9a-fA-F]{2}|u\{[0-9a-fA-F]{1,6}\})`)

func sayForm(form string) (string, bool) {
	if form == "" {
		return "", false
	}
	switch digits := strings.Trim(form[2:], "{}"); form[1] {
	case 'x':
		v, err := strconv.ParseUint(digits, 16, 8)
		return string([]byte{byte(v)}), err == nil
	case 'u':
		v, err := strconv.ParseUint(digits, 16, 32)
		return string(rune(v)), err == nil && utf8.ValidRune(rune(v))
	default:
		says, err := strconv.Unquote(`"` + form + `"`)
		return says, err == nil
	}
}

func TestP108UnquoteByForms(t *testing.T) {
	const parts = "\"\\xu{}4dF0n\n\xC3\xA9"
	inner := []string{""}
	for range 5 {
		var longer []string
		for _, s := range inner {
			says, at, e := glyph.Unquote(`"` + s)
			if want := unquoteByForms(`"` + s); (unquoted{says, at, e}) != want {
				t.Fatalf("Unquote(%q): %q, %d, %d, not %v", `"`+s, says, at, e, want)
			}
			for i := range len(parts) {
				longer = append(longer, s+parts[i:i+1])
			}
		}
		inner = longer
	}
}

func TestP108OtherPiecesSayTheSame(t *testing.T) {
	for _, lit := range []string{`"é"`, `"\u{e9}"`, `"\u{0000E9}"`, `"\xc3\xa9"`, `"\xC3\xA9"`} {
		holdUnquote(t, lit, unquoted{says: "é"})
	}
}
