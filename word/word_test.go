package word_test

import (
	"slices"
	"strconv"
	"strings"
	"testing"
	"unsafe"

	"earshot/api"
	"earshot/word"
)

// at0 tells words without their places: Print looks at none.
func at0(kind int, text string) api.Token { return api.Token{Kind: kind, Text: text} }

func line(words ...api.Token) []api.Token { return append(words, end(0, 0)) }

func holdPrint(t *testing.T, l []api.Token, want string, code api.Errno) {
	t.Helper()
	before := slices.Clone(l)
	got, e := word.Print(l)
	if got != want || e != code {
		t.Errorf("Print(%.200v): %.80q, %d, not %.80q, %d", l, got, e, want, code)
	}
	if !slices.Equal(l, before) {
		t.Errorf("Print(%.200v) has changed what it was given", before)
	}
}

func TestP203Examples(t *testing.T) {
	holdPrint(t, line(at0(api.TokenName, "a"), at0(api.TokenMark, "?"), at0(api.TokenNumber, "3")), "a ? 3\n", api.OK)
	holdPrint(t, []api.Token{at0(api.TokenName, "a")}, "", api.ErrToken)
	holdPrint(t, line(), "", api.ErrToken)
	holdPrint(t, line(at0(api.TokenName, "a b")), "", api.ErrToken)
}

func TestP203Lines(t *testing.T) {
	a, b := at0(api.TokenName, "a"), at0(api.TokenText, `"b c"`)
	holdPrint(t, nil, "", api.OK)
	holdPrint(t, []api.Token{}, "", api.OK)
	holdPrint(t, slices.Concat(line(a), line(b, a)), "a\n\"b c\" a\n", api.OK)
	holdPrint(t, slices.Concat(line(a), line(), line(b)), "", api.ErrToken)
	holdPrint(t, slices.Concat(line(), line(a)), "", api.ErrToken)
	holdPrint(t, slices.Concat(line(a), line()), "", api.ErrToken)
	holdPrint(t, slices.Concat(line(a), []api.Token{b}), "", api.ErrToken)
	holdPrint(t, []api.Token{a, b}, "", api.ErrToken)
}

func TestP203LooksAtKindAndTextAlone(t *testing.T) {
	l := []api.Token{{Kind: api.TokenName, Text: "a", Line: -1, Col: 1 << 60}, {Kind: api.TokenMark, Text: "?", Line: 3}, {Kind: api.TokenEnd, Text: "\n", Line: -5, Col: 9}}
	holdPrint(t, l, "a ?\n", api.OK)
}

// wordsByKind has texts that are wholly one word of each kind.
func wordsByKind() map[int][]string {
	return map[int][]string{
		api.TokenName:   {"a", "é1", "🦉", "٣", strings.Repeat("漢", api.MaxName)},
		api.TokenNumber: {"0", "7", "10", "1099511627776"},
		api.TokenText:   {`""`, `"é #"`, `"\x41\u{e9}\""`, "\"\uFFFD\""},
		api.TokenMark:   {"?", "\\", "_", "'", "~", "!"},
	}
}

func TestP203EachWordIsOfOneKind(t *testing.T) {
	for is, texts := range wordsByKind() {
		for _, text := range texts {
			for kind := -3; kind <= 7; kind++ {
				if kind == is {
					holdPrint(t, line(at0(kind, text)), text+"\n", api.OK)
				} else {
					holdPrint(t, line(at0(kind, text)), "", api.ErrToken)
					holdPrint(t, line(at0(api.TokenName, "a"), at0(kind, text)), "", api.ErrToken)
				}
			}
		}
	}
}

func TestP203NoWords(t *testing.T) {
	texts := []string{
		"", " ", "\n", "\n\n", "\r", "#", "#a", "a#", "a ", " a", "a b", "a\n", "\na", "?\n", "ab?", "??", "a?", "e\u0301", "×", "\xFF", "a\xFF", "\xC3", "\x00", "\uFFFD",
		"00", "01", "1a", "1 ", "-1", "+1", "1099511627777", strings.Repeat("9", 100), strings.Repeat("a", api.MaxName+1),
		`"`, `"a`, `a"`, `"a"b`, `"a" `, ` "a"`, `"a""b"`, `"a"#`, `"\q"`, `"\`, `"\u{d800}"`, "\"\n\"", "\"\t\"", "\"\xFF\"", "\"a\"\n",
	}
	for _, text := range texts {
		for kind := api.TokenName; kind <= api.TokenMark; kind++ {
			holdPrint(t, line(at0(kind, text)), "", api.ErrToken)
		}
	}
	for _, text := range []string{"", "\r\n", "\n\n", " ", "a", "\n ", "0", "?"} {
		holdPrint(t, []api.Token{at0(api.TokenName, "a"), at0(api.TokenEnd, text)}, "", api.ErrToken)
	}
}

func TestP203LongTexts(t *testing.T) {
	mark := at0(api.TokenMark, "?")
	half := api.MaxText / 2 // each mark with the blank, or the end, behind it has two bytes
	holdPrint(t, line(slices.Repeat([]api.Token{mark}, half)...), strings.Repeat("? ", half-1)+"?\n", api.OK)
	holdPrint(t, line(slices.Repeat([]api.Token{mark}, half+1)...), "", api.ErrLong)
	holdPrint(t, slices.Repeat(line(mark), half), strings.Repeat("?\n", half), api.OK)
	lit := `"` + strings.Repeat("a", api.MaxText-3) + `"`
	holdPrint(t, line(at0(api.TokenText, lit)), lit+"\n", api.OK)
	holdPrint(t, line(at0(api.TokenText, lit[:1]+"a"+lit[1:])), "", api.ErrLong)
	holdPrint(t, line(at0(api.TokenText, `"`+strings.Repeat("é", api.MaxText)+`"`)), "", api.ErrLong)
}

func TestP203WhichErrorIsFirst(t *testing.T) {
	mark, none := at0(api.TokenMark, "?"), at0(api.TokenMark, "??")
	// Too many words are told ahead of what they are; a text that is too long behind it.
	holdPrint(t, slices.Repeat([]api.Token{none}, api.MaxText+1), "", api.ErrLong)
	holdPrint(t, slices.Repeat([]api.Token{none}, api.MaxText), "", api.ErrToken)
	holdPrint(t, slices.Repeat([]api.Token{mark}, api.MaxText+1), "", api.ErrLong)
	holdPrint(t, slices.Repeat([]api.Token{mark}, api.MaxText), "", api.ErrToken)
	long := at0(api.TokenText, `"`+strings.Repeat("a", api.MaxText)+`"`)
	holdPrint(t, line(long, none), "", api.ErrToken)
	holdPrint(t, line(long, mark), "", api.ErrLong)
	holdPrint(t, []api.Token{long}, "", api.ErrToken)
}

func TestP204Number(t *testing.T) {
	for _, v := range []int{0, 1, 9, 10, 99, 1 << 32, api.MaxNumber - 1, api.MaxNumber} {
		if got, e := word.Number(strconv.Itoa(v)); got != v || e != api.OK {
			t.Errorf("Number of %d: %d, %d", v, got, e)
		}
	}
	for _, lit := range []string{
		"", "00", "01", "0000", "1a", "a", "a1", "-1", "-0", "+1", " 1", "1 ", "1\n", "1_0", "1.0", "0x1", "٣", "1٣", "\xFF", "1\xFF", "é",
		"1099511627777", "1099511627780", "10995116277760", "9223372036854775807", "9223372036854775808",
		"18446744073709551616", "18446744073709551617", strings.Repeat("9", 100000), "1" + strings.Repeat("0", 64),
		":", "/", "1:", "1/",
	} {
		if got, e := word.Number(lit); got != 0 || e != api.ErrNumber {
			t.Errorf("Number(%.40q): %d, %d, not 0, ErrNumber", lit, got, e)
		}
	}
}

func TestP204NumberIsThatOfScan(t *testing.T) {
	eachText([]string{"0", "1", "9", "a", "é", "-", " "}, 4, func(lit string) {
		value, e := word.Number(lit)
		words, fault, _, _ := word.Scan(lit)
		is := fault == api.OK && len(words) == 2 && words[0].Kind == api.TokenNumber && words[0].Text == lit
		want, _ := strconv.Atoi(lit)
		switch {
		case is && (value != want || e != api.OK):
			t.Errorf("Number(%q): %d, %d, not %d", lit, value, e, want)
		case !is && (value != 0 || e != api.ErrNumber):
			t.Errorf("Number(%q): %d, %d, not 0, ErrNumber", lit, value, e)
		}
	})
}

func TestP205Lines(t *testing.T) {
	a, b, c := name("a", 1, 1), number("2", 3, 4), at0(77, "no word")
	e := end(5, 6)
	odd := at0(api.TokenEnd, "no end") // the kind alone decides
	for _, k := range []struct {
		l    []api.Token
		want [][]api.Token
	}{
		{nil, nil},
		{[]api.Token{}, nil},
		{[]api.Token{a, e, b}, [][]api.Token{{a}, {b}}},
		{[]api.Token{a, e}, [][]api.Token{{a}}},
		{[]api.Token{a, b, c}, [][]api.Token{{a, b, c}}},
		{[]api.Token{e}, [][]api.Token{{}}},
		{[]api.Token{e, e, a, b, e, e, c}, [][]api.Token{{}, {}, {a, b}, {}, {c}}},
		{[]api.Token{a, odd, b}, [][]api.Token{{a}, {b}}},
	} {
		got := word.Lines(k.l)
		if !slices.EqualFunc(got, k.want, slices.Equal) {
			t.Errorf("Lines(%v): %v, not %v", k.l, got, k.want)
		}
	}
}

func TestP205LinesAreOfNewMemory(t *testing.T) {
	a, b, e, x := name("a", 1, 1), name("b", 2, 1), end(1, 2), mark("x", 9, 9)
	room := []api.Token{a, a, e, b, e, b, x}
	given := room[:6]
	lines := word.Lines(given)
	for i := range lines {
		_ = append(lines[i], x, x)
	}
	if want := [][]api.Token{{a, a}, {b}, {b}}; !slices.EqualFunc(lines, want, slices.Equal) {
		t.Errorf("lines of which one was added to: %v", lines)
	}
	for i := range lines {
		lines[i][0] = x
	}
	if want := []api.Token{a, a, e, b, e, b, x}; !slices.Equal(room, want) {
		t.Errorf("what Lines was given has changed: %v", room)
	}
	lines = word.Lines(given)
	if unsafe.StringData(lines[0][0].Text) == unsafe.StringData(given[0].Text) {
		t.Errorf("a line's text shares its memory with the one that was given")
	}
	given[0] = x
	if lines[0][0] != a {
		t.Errorf("Lines has kept what it was given")
	}
}

// TestP206PrintIsRead holds W10 for words: what is printed is read as it was, and is printed as it is.
func TestP206PrintIsRead(t *testing.T) {
	holdReads := func(text string, l []api.Token) {
		back, e, _, _ := word.Scan(text)
		if e != api.OK || !slices.EqualFunc(back, l, func(x, y api.Token) bool { return x.Kind == y.Kind && x.Text == y.Text }) {
			t.Fatalf("Scan(%q): %v, %d, not %v", text, back, e, l)
		}
		if again, e := word.Print(back); again != text || e != api.OK {
			t.Fatalf("Print of what Scan(%q) tells: %q, %d", text, again, e)
		}
	}
	var every []api.Token
	for kind, texts := range wordsByKind() {
		for _, text := range texts {
			every = append(every, at0(kind, text))
		}
	}
	for _, x := range every {
		for _, y := range every {
			for _, l := range [][]api.Token{line(x, y), slices.Concat(line(x), line(y)), slices.Concat(line(x, y, x), line(y, y))} {
				text, e := word.Print(l)
				if e != api.OK {
					t.Fatalf("Print(%v): %d", l, e)
				}
				holdReads(text, l)
			}
		}
	}
	eachText(piecesToTry(), 4, func(text string) {
		l, e, _, _ := word.Scan(text)
		if e != api.OK {
			return
		}
		one, e := word.Print(l)
		if e != api.OK {
			t.Fatalf("Print of what Scan(%q) tells: %d", text, e)
		}
		holdReads(one, l)
	})
}
