package word_test

import (
	"regexp"
	"slices"
	"strings"
	"testing"
	"unicode/utf8"
	"unsafe"

	"earshot/api"
	"earshot/glyph"
	"earshot/word"
)

// scanned is what Scan answers.
type scanned struct {
	words     []api.Token
	e         api.Errno
	line, col int
}

func scan(text string) scanned {
	words, e, line, col := word.Scan(text)
	return scanned{words, e, line, col}
}

func (s scanned) equals(o scanned) bool {
	return slices.Equal(s.words, o.words) && s.e == o.e && s.line == o.line && s.col == o.col
}

func holdScan(t *testing.T, text string, want scanned) {
	t.Helper()
	if got := scan(text); !got.equals(want) {
		t.Errorf("Scan(%.80q): %.200v, not %.200v", text, got, want)
	}
}

func holdWords(t *testing.T, text string, want ...api.Token) {
	t.Helper()
	holdScan(t, text, scanned{words: want})
}

func holdFault(t *testing.T, text string, e api.Errno, line, col int) {
	t.Helper()
	holdScan(t, text, scanned{e: e, line: line, col: col})
}

func name(text string, line, col int) api.Token {
	return api.Token{Kind: api.TokenName, Text: text, Line: line, Col: col}
}

func number(text string, line, col int) api.Token {
	return api.Token{Kind: api.TokenNumber, Text: text, Line: line, Col: col}
}

func quoted(text string, line, col int) api.Token {
	return api.Token{Kind: api.TokenText, Text: text, Line: line, Col: col}
}

func mark(text string, line, col int) api.Token {
	return api.Token{Kind: api.TokenMark, Text: text, Line: line, Col: col}
}

func end(line, col int) api.Token {
	return api.Token{Kind: api.TokenEnd, Text: "\n", Line: line, Col: col}
}

func TestP201Examples(t *testing.T) {
	holdWords(t, "αβ 12 # x\n\n \"é\"?",
		name("αβ", 1, 1), number("12", 1, 4), end(1, 10), quoted("\"é\"", 3, 2), mark("?", 3, 5), end(3, 6))
	holdFault(t, "a\n 012", api.ErrNumber, 2, 2)
	holdFault(t, "1a", api.ErrNumber, 1, 1)
	holdFault(t, "×", api.ErrChar, 1, 1)
	holdFault(t, "\"a\nb", api.ErrQuote, 1, 3)
	holdFault(t, "\"\\q\"", api.ErrEscape, 1, 2)
}

func TestP201EachRuneAlone(t *testing.T) {
	for r := rune(0); r <= utf8.MaxRune; r++ {
		if !utf8.ValidRune(r) {
			continue
		}
		text := string(r)
		var want scanned
		switch class := glyph.Class(r); {
		case class == api.ClassBlank, class == api.ClassEnd, r == '#':
		case r == '"':
			want = scanned{e: api.ErrQuote, line: 1, col: 2}
		case class == api.ClassLetter:
			want.words = []api.Token{name(text, 1, 1), end(1, 2)}
		case class == api.ClassDigit:
			want.words = []api.Token{number(text, 1, 1), end(1, 2)}
		case class == api.ClassMark:
			want.words = []api.Token{mark(text, 1, 1), end(1, 2)}
		default:
			want = scanned{e: api.ErrChar, line: 1, col: 1}
		}
		if got := scan(text); !got.equals(want) {
			t.Fatalf("Scan(%q): %v, not %v", text, got, want)
		}
	}
}

func TestP201EachLooseByte(t *testing.T) {
	for b := 0x80; b <= 0xFF; b++ {
		loose := string([]byte{byte(b)})
		holdFault(t, "é "+loose, api.ErrChar, 1, 3)
		holdFault(t, "é"+loose+" ", api.ErrChar, 1, 2)
		holdFault(t, "\"é"+loose+"\"", api.ErrRune, 1, 3)
		holdWords(t, "a #"+loose+loose, name("a", 1, 1), end(1, 6))
	}
}

func TestP201Runs(t *testing.T) {
	holdWords(t, "a1b2", name("a1b2", 1, 1), end(1, 5))
	holdWords(t, "a-1", name("a", 1, 1), mark("-", 1, 2), number("1", 1, 3), end(1, 4))
	holdWords(t, "a_b", name("a", 1, 1), mark("_", 1, 2), name("b", 1, 3), end(1, 4))
	holdWords(t, "漢字\t🦉\rw", name("漢字", 1, 1), name("🦉", 1, 4), name("w", 1, 6), end(1, 7))
	holdWords(t, "??", mark("?", 1, 1), mark("?", 1, 2), end(1, 3))
	holdWords(t, "é\"é\"é", name("é", 1, 1), quoted("\"é\"", 1, 2), name("é", 1, 5), end(1, 6))
	holdWords(t, "٣", name("٣", 1, 1), end(1, 2)) // a digit of another script is a letter
	holdFault(t, "e\u0301", api.ErrChar, 1, 2)
	holdFault(t, "1é", api.ErrNumber, 1, 1)
	holdFault(t, "a\x00b", api.ErrChar, 1, 2)
	holdFault(t, "a\u00a0b", api.ErrChar, 1, 2)
}

func TestP201LongNames(t *testing.T) {
	for _, c := range []string{"a", "é", "漢", "🦉"} {
		longest := strings.Repeat(c, api.MaxName)
		holdWords(t, " "+longest, name(longest, 1, 2), end(1, api.MaxName+2))
		holdFault(t, "é\n "+longest+c, api.ErrName, 2, 2)
		holdFault(t, longest+"0", api.ErrName, 1, 1)
		holdWords(t, longest+"?", name(longest, 1, 1), mark("?", 1, api.MaxName+1), end(1, api.MaxName+2))
	}
}

func TestP201Numbers(t *testing.T) {
	for _, lit := range []string{"0", "1", "9", "10", "1099511627775", "1099511627776"} {
		holdWords(t, "é "+lit, name("é", 1, 1), number(lit, 1, 3), end(1, 3+len(lit)))
	}
	for _, lit := range []string{
		"00", "01", "0a", "1a", "0x1", "1e3", "1099511627777", "1099511627780", "10995116277760",
		"9223372036854775808", "18446744073709551616", "18446744073709551617",
		"1" + strings.Repeat("0", 200), strings.Repeat("0", 200), "1é", "9٣",
	} {
		holdFault(t, "é\n\té "+lit+" a", api.ErrNumber, 2, 4)
	}
	holdWords(t, "1.5", number("1", 1, 1), mark(".", 1, 2), number("5", 1, 3), end(1, 4))
	holdWords(t, "-1", mark("-", 1, 1), number("1", 1, 2), end(1, 3))
}

func TestP201Texts(t *testing.T) {
	for _, lit := range []string{
		`""`, `"é"`, `"a b"`, `"#"`, `"\""`, `"\\"`, `"\n\t\r"`, `"\x00\xFF"`, `"\u{e9}\u{10FFFF}"`, "\"\uFFFD\u200b\u0085×\"",
	} {
		size := glyph.Count(lit)
		holdWords(t, "é"+lit, name("é", 1, 1), quoted(lit, 1, 2), end(1, 2+size))
		holdWords(t, lit+lit+"# \"", quoted(lit, 1, 1), quoted(lit, 1, 1+size), end(1, 4+2*size))
		holdWords(t, "\n"+lit+"\n"+lit+"1\n", quoted(lit, 2, 1), end(2, 1+size), quoted(lit, 3, 1), number("1", 3, 1+size), end(3, 2+size))
	}
}

func TestP201NoTexts(t *testing.T) {
	for _, c := range []struct {
		text string
		e    api.Errno
		col  int
	}{
		{`"`, api.ErrQuote, 2},
		{`"é`, api.ErrQuote, 3},
		{`"é #`, api.ErrQuote, 5},
		{`"é\"`, api.ErrQuote, 5},
		{`"é\\`, api.ErrQuote, 5},
		{`"" "é`, api.ErrQuote, 6},
		{`"é\`, api.ErrEscape, 3},
		{`"é\x`, api.ErrEscape, 3},
		{`"é\x4`, api.ErrEscape, 3},
		{`"é\x4"`, api.ErrEscape, 3},
		{`"é\u{e9`, api.ErrEscape, 3},
		{`"é\u{}"`, api.ErrEscape, 3},
		{`"é\u{d800}"`, api.ErrEscape, 3},
		{`"é\u{110000}"`, api.ErrEscape, 3},
		{`"\u{e9}é\é"`, api.ErrEscape, 9},
		{"\"é\t\"", api.ErrRune, 3},
		{"\"é\r", api.ErrRune, 3},
		{"\"é\x7F\"", api.ErrRune, 3},
		{"\"é\x00\"", api.ErrRune, 3},
		{"\"é\xE2\x98\"", api.ErrRune, 3},
		{"\"\x01\\q", api.ErrRune, 2},
		{"\"\\q\x01", api.ErrEscape, 2},
	} {
		for _, behind := range []string{"", "\n", "\n\"", "\n×\""} {
			holdFault(t, c.text+behind, c.e, 1, c.col)
			holdFault(t, "a\n\né "+c.text+behind, c.e, 3, c.col+2)
		}
	}
}

func TestP201TextsThatALineCutsOff(t *testing.T) {
	holdFault(t, "\"\\\n\"", api.ErrEscape, 1, 2)
	holdFault(t, "\"\\x4\n1\"", api.ErrEscape, 1, 2)
	holdFault(t, "\"\\u{e\n9}\"", api.ErrEscape, 1, 2)
	holdFault(t, "\"\n\"", api.ErrQuote, 1, 2)
	holdFault(t, "a \"b\r\n\"", api.ErrRune, 1, 5)
}

func TestP201Remarks(t *testing.T) {
	holdWords(t, "#")
	holdWords(t, "# \xFF\x00\"\\q 012 ×\n#\n")
	holdWords(t, "a#b", name("a", 1, 1), end(1, 4))
	holdWords(t, "a #é\xFF\xE2\x98\nb##", name("a", 1, 1), end(1, 8), name("b", 2, 1), end(2, 4))
	holdWords(t, "1# \r\n2", number("1", 1, 1), end(1, 5), number("2", 2, 1), end(2, 2))
	holdWords(t, `"#"#"`, quoted(`"#"`, 1, 1), end(1, 6))
	holdFault(t, "# ×\n×", api.ErrChar, 2, 1)
}

func TestP201Ends(t *testing.T) {
	holdWords(t, "")
	holdWords(t, "\n\n \t\r\n")
	holdWords(t, "a", name("a", 1, 1), end(1, 2))
	holdWords(t, "a\n", name("a", 1, 1), end(1, 2))
	holdWords(t, "a \r\n", name("a", 1, 1), end(1, 4))
	holdWords(t, "\n\né\n\nb ", name("é", 3, 1), end(3, 2), name("b", 5, 1), end(5, 3))
}

func TestP202LongTexts(t *testing.T) {
	full := strings.Repeat("é", api.MaxText/2)
	for _, long := range []string{full + "a", strings.Repeat("\n", api.MaxText+1), strings.Repeat("×", api.MaxText), "#" + full} {
		holdFault(t, long, api.ErrLong, 0, 0)
	}
	holdWords(t, strings.Repeat(" ", api.MaxText))
	holdWords(t, strings.Repeat("\n", api.MaxText-1)+"a", name("a", api.MaxText, 1), end(api.MaxText, 2))
	holdFault(t, full, api.ErrName, 1, 1)
	holdFault(t, strings.Repeat("\n", api.MaxText-1)+"\"", api.ErrQuote, api.MaxText, 2)
	lit := `"` + strings.Repeat("a", api.MaxText-2) + `"`
	holdWords(t, lit, quoted(lit, 1, 1), end(1, api.MaxText+1))
	if got := scan(strings.Repeat("?", api.MaxText)); got.e != api.OK || len(got.words) != api.MaxText+1 {
		t.Errorf("as many marks as there may be: %d, %d words", got.e, len(got.words))
	}
	if got := scan(strings.Repeat("\"\"", api.MaxText/2)); got.e != api.OK || len(got.words) != api.MaxText/2+1 {
		t.Errorf("as many texts as there may be: %d, %d words", got.e, len(got.words))
	}
}

func TestP202TheFirstFaultIsTold(t *testing.T) {
	faults := []struct {
		text string
		e    api.Errno
		off  int
	}{
		{"012", api.ErrNumber, 0}, {"×", api.ErrChar, 0}, {strings.Repeat("a", api.MaxName+1), api.ErrName, 0},
		{"\"\\q\"", api.ErrEscape, 1}, {"\"é\x01\"", api.ErrRune, 2}, {"\xFF", api.ErrChar, 0},
	}
	for _, a := range faults {
		for _, b := range faults {
			holdFault(t, "é "+a.text+" "+b.text, a.e, 1, 3+a.off)
			holdFault(t, "é\n"+a.text+"\n"+b.text, a.e, 2, 1+a.off)
			holdFault(t, a.text+"\n\"", a.e, 1, 1+a.off)
		}
	}
}

// The chapter's words as forms of the library, to hold the scanner against another way of saying them.
var (
	blankForm  = regexp.MustCompile(`^[\t\r ]+`)
	remarkForm = regexp.MustCompile(`^#(?s:.*)`)
	runForm    = regexp.MustCompile(`^[0-9A-Za-z\x{C0}-\x{D6}\x{D8}-\x{F6}\x{F8}-\x{2FF}\x{370}-\x{167F}\x{1681}-\x{1FFF}\x{3041}-\x{D7A3}\x{1F300}-\x{1FAFF}]+`)
	numberForm = regexp.MustCompile(`^(?:0|[1-9][0-9]{0,11})$`) // those of 13 digits the small texts don't have
	pieceForm  = regexp.MustCompile(`^(?:[^"\\[:cntrl:]]|\\(?:["\\ntr]|x[[:xdigit:]]{2}))`)
	markForm   = regexp.MustCompile(`^[!$-/:-@\[-` + "`" + `{-~]`)
)

// textByForms reads the quoted text that rest begins with: how many bytes it has; with an error the place of what offends.
func textByForms(rest string) (int, api.Errno) {
	for at := 1; at < len(rest); {
		piece := pieceForm.FindString(rest[at:])
		switch r, size := utf8.DecodeRuneInString(rest[at:]); {
		case r == '"':
			return at + 1, api.OK
		case r == utf8.RuneError && size == 1:
			return at, api.ErrRune
		case piece == "" && r == '\\':
			return at, api.ErrEscape
		case piece == "":
			return at, api.ErrRune
		}
		at += len(piece)
	}
	return len(rest), api.ErrQuote
}

// scanByForms scans a text by the forms above.
func scanByForms(text string) scanned {
	var out scanned
	for i, line := range strings.Split(text, "\n") {
		before := len(out.words)
		for at := 0; at < len(line); {
			rest := line[at:]
			w := api.Token{Line: i + 1, Col: utf8.RuneCountInString(line[:at]) + 1}
			refuse := func(e api.Errno, off int) scanned { return scanned{e: e, line: w.Line, col: w.Col + off} }
			if gap := blankForm.FindString(rest) + remarkForm.FindString(rest); gap != "" {
				at += len(gap)
				continue
			}
			if run := runForm.FindString(rest); run != "" {
				w.Kind, w.Text = api.TokenName, run
				if '0' <= run[0] && run[0] <= '9' {
					w.Kind = api.TokenNumber
					if !numberForm.MatchString(run) {
						return refuse(api.ErrNumber, 0)
					}
				}
			} else if rest[0] == '"' {
				size, e := textByForms(rest)
				w.Kind, w.Text = api.TokenText, rest[:size]
				if e != api.OK {
					return refuse(e, utf8.RuneCountInString(w.Text))
				}
			} else if w.Kind, w.Text = api.TokenMark, markForm.FindString(rest); w.Text == "" {
				return refuse(api.ErrChar, 0)
			}
			out.words = append(out.words, w)
			at += len(w.Text)
		}
		if len(out.words) > before {
			out.words = append(out.words, end(i+1, utf8.RuneCountInString(line)+1))
		}
	}
	return out
}

// eachText hands over all texts of up to most of the pieces.
func eachText(pieces []string, most int, use func(string)) {
	var grow func(text string, left int)
	grow = func(text string, left int) {
		use(text)
		if left == 0 {
			return
		}
		for _, p := range pieces {
			grow(text+p, left-1)
		}
	}
	grow("", most)
}

// piecesToTry are those of which the tests make small texts.
func piecesToTry() []string {
	return []string{"a", "é", "0", "7", " ", "\r", "\n", "#", "\"", "\\", "n", "x41", "?", "\xC3", "×", "🦉", "\x7F"}
}

func TestP202ScanByForms(t *testing.T) {
	eachText(piecesToTry(), 4, func(text string) {
		if got, want := scan(text), scanByForms(text); !got.equals(want) {
			t.Fatalf("Scan(%q): %v, not %v", text, got, want)
		}
	})
}

func TestP202WordsAreOfNewMemory(t *testing.T) {
	text := "a \"é\" 1 ?\nb"
	begin, size := uintptr(unsafe.Pointer(unsafe.StringData(text))), uintptr(len(text))
	for _, w := range scan(text).words {
		if at := uintptr(unsafe.Pointer(unsafe.StringData(w.Text))); begin <= at && at < begin+size {
			t.Errorf("the word %q shares its memory with the text", w.Text)
		}
	}
}
