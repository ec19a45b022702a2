package tell_test

import (
	"slices"
	"strconv"
	"strings"
	"testing"
	"unicode/utf8"

	"earshot/api"
	"earshot/roster"
	"earshot/tell"
	"earshot/wire"
)

// fault is an error that Read tells of a text, and its column.
type fault struct {
	text string
	e    api.Errno
	col  int
}

// begin tells as much of a text as a message has room for.
func begin(text string) string { return text[:min(len(text), 200)] }

// holdFaults holds that texts are refused so, and nothing stands beside the error.
func holdFaults(t *testing.T, r roster.Roster, faults ...fault) {
	t.Helper()
	for _, c := range faults {
		if x, e, col := tell.Read(r, c.text); x != nil || e != c.e || col != c.col {
			t.Errorf("Read(%q): %#v, error %d, column %d, not %d, %d", begin(c.text), x, e, col, c.e, c.col)
		}
	}
}

// holdNote holds that a text is read as that note.
func holdNote(t *testing.T, r roster.Roster, text string, want wire.Note) {
	t.Helper()
	if x, e, col := tell.Read(r, text); !alike(x, want) || e != api.OK || col != 0 {
		t.Errorf("Read(%q): %#v, error %d, column %d, not %#v", begin(text), x, e, col, want)
	}
}

func TestP802ReadOfTheChaptersExamples(t *testing.T) {
	r := must(t, "αβγ")
	holdNote(t, r, "query α 5 [ β ? 3 ] # x", wire.Query{Round: 5, News: news(suspicion(1, 3))})
	holdFaults(t, r,
		fault{"", api.ErrWord, 1},
		fault{"ask α", api.ErrWord, 1},
		fault{"query αβ 5 []", api.ErrWord, 7},
		fault{"query δ 5 []", api.ErrSign, 7},
		fault{"query α 0 []", api.ErrRound, 9},
		fault{"rumor α [β!1 α!1]", api.ErrNews, 14},
		fault{"rumor α [β!1", api.ErrWord, 13},
		fault{"reply α 1 ββ []", api.ErrTwice, 11},
		fault{"rumor α []\nx", api.ErrWord, 1},
	)
}

func TestP802BlanksAndRemarks(t *testing.T) {
	r := must(t, "αβγ🦉")
	query := wire.Query{From: 3, Round: 7, News: news(suspicion(1, 3), mistake(3, 0))}
	for _, text := range []string{
		"query 🦉 7 [β?3 🦉!0]",
		"  query   🦉  7  [  β  ?  3  🦉  !  0  ]  ",
		"query\t🦉\t7[β?3\t🦉!0]",
		"query\r🦉\r7\r[\rβ\r?\r3\r🦉\r!\r0\r]\r",
		"query 🦉 7 [β?3 🦉!0]#",
		"query 🦉 7 [β?3 🦉!0] # query α 1 [] \xFF×\"",
		"query 🦉 7 [β?3 🦉!0]\n",
		"query 🦉 7 [β?3 🦉!0]\r\n\r\n",
		"\n\n \t\n# x\n#y\n query 🦉 7 [β?3 🦉!0]\n# z\n\n  # \xFF",
	} {
		holdNote(t, r, text, query)
	}
	holdNote(t, r, "reply α 1-[]", wire.Reply{Round: 1})
	holdNote(t, r, "reply α 1 🦉α[]", wire.Reply{Round: 1, Heard: setOf(0, 3)})
	holdNote(t, r, "rumor γ[]", wire.Rumor{From: 2})
}

func TestP802ASignIsACharacterOfAnyKind(t *testing.T) {
	// The words that texts begin with are made of letters: signs may be these too, and a set may spell such a word.
	r := must(t, "queryplm")
	holdNote(t, r, "query q 5 [q?1 e!2]", wire.Query{Round: 5, News: news(suspicion(0, 1), mistake(2, 2))})
	holdNote(t, r, "reply r 5 query []", wire.Reply{From: 3, Round: 5, Heard: setOf(0, 1, 2, 3, 4)})
	holdNote(t, r, "reply r 5 reply []", wire.Reply{From: 3, Round: 5, Heard: setOf(2, 3, 4, 5, 6)})
	holdFaults(t, r, fault{"reply r 5 rumor []", api.ErrSign, 11}, fault{"query query 5 []", api.ErrWord, 7})
}

func TestP802ARosterWithoutANodeComesFirst(t *testing.T) {
	for _, text := range []string{"", "rumor α []", "×", "\xFF", "\"", "012", strings.Repeat(" ", api.MaxText+1)} {
		holdFaults(t, roster.Roster{}, fault{text, api.ErrArg, 0})
	}
}

func TestP802LongTexts(t *testing.T) {
	r := must(t, "αβγ")
	for _, text := range []string{"rumor β []", "rumor β [] #", "\n rumor β [γ?1]"} {
		blanks := strings.Repeat(" ", api.MaxText-len(text))
		x, _, _ := tell.Read(r, text)
		holdNote(t, r, text+blanks, x)
		holdFaults(t, r, fault{text + blanks + " ", api.ErrLong, 0}, fault{text + blanks + "\n×", api.ErrLong, 0})
	}
	holdFaults(t, r,
		fault{strings.Repeat(" ", api.MaxText), api.ErrWord, 1},
		fault{strings.Repeat("\xFF", api.MaxText+1), api.ErrLong, 0},
		// β has two bytes, and is one character.
		fault{"rumor β []" + strings.Repeat(" ", api.MaxText-12) + "x", api.ErrWord, api.MaxText - 1},
		fault{"rumor β [" + strings.Repeat(" ", api.MaxText-10), api.ErrWord, api.MaxText},
	)
}

func TestP802FaultsOfScanComeFirst(t *testing.T) {
	r := must(t, "αβγ")
	for _, text := range []string{"ask α ", "query αβ 5 [] ", "query δ 0 ", "rumor α [β!1 α!1] ", "reply α 1 ββ [] ", "rumor β [] x ", "rumor β [] ", ""} {
		behind := utf8.RuneCountInString(text)
		for _, c := range []fault{
			{"×", api.ErrChar, 1}, {"\xFF", api.ErrChar, 1}, {"012", api.ErrNumber, 1}, {"5α", api.ErrNumber, 1},
			{"1099511627777", api.ErrNumber, 1}, {strings.Repeat("α", api.MaxName+1), api.ErrName, 1},
			{"\"é\\q\"", api.ErrEscape, 3}, {"\"é\x01\"", api.ErrRune, 3}, {"\"é", api.ErrQuote, 3},
		} {
			holdFaults(t, r, fault{text + c.text, c.e, behind + c.col}, fault{text + "\n\n" + c.text, c.e, c.col})
		}
	}
	holdFaults(t, r, fault{"rumor α [β! ×]", api.ErrChar, 13}, fault{"rumor α [β!1γ!2]", api.ErrNumber, 12})
}

func TestP802TextsWithoutWords(t *testing.T) {
	r := must(t, "αβγ")
	for _, text := range []string{"", " ", "\t\r ", "\n", "\n\n\n", "# rumor β []", "   # x\n  # y\n ", "\n   "} {
		holdFaults(t, r, fault{text, api.ErrWord, 1})
	}
}

func TestP802Rounds(t *testing.T) {
	r := must(t, "αβγ")
	for _, round := range []int{1, 2, 9, 10, 1<<32 - 1, 1 << 32, api.MaxRound - 1, api.MaxRound} {
		digits := strconv.Itoa(round)
		holdNote(t, r, "query β "+digits+" []", wire.Query{From: 1, Round: round})
		holdNote(t, r, "reply β "+digits+" - []", wire.Reply{From: 1, Round: round})
	}
	for _, digits := range []string{"0", "1099511627776"} {
		holdFaults(t, r,
			fault{"query β " + digits + " []", api.ErrRound, 9},
			fault{"reply β " + digits + " - []", api.ErrRound, 9},
			fault{"query β " + digits, api.ErrRound, 9},
			fault{"reply  β\t" + digits + " ββ", api.ErrRound, 10},
		)
	}
	holdFaults(t, r, fault{"query β -1 []", api.ErrWord, 9}, fault{"query β 1099511627777 []", api.ErrNumber, 9})
}

func TestP802Sets(t *testing.T) {
	r := must(t, "αβγ🦉")
	for text, want := range map[string]api.Set{
		"-": {}, "α": setOf(0), "🦉": setOf(3), "🦉α": setOf(0, 3), "γβα": setOf(0, 1, 2), "αβγ🦉": setOf(0, 1, 2, 3),
	} {
		holdNote(t, r, "reply α 1 "+text+" []", wire.Reply{Round: 1, Heard: want})
	}
	// Whichever of its characters offends: the fault stands at the word.
	for text, e := range map[string]api.Errno{
		"δ": api.ErrSign, "αδ": api.ErrSign, "αβγ🦉x": api.ErrSign, "α1": api.ErrSign, "αα": api.ErrTwice, "αβγα": api.ErrTwice,
		"ααδ": api.ErrTwice, "δαα": api.ErrSign, "+": api.ErrWord, "1": api.ErrWord, "0": api.ErrWord, "[": api.ErrWord, "\"α\"": api.ErrWord,
	} {
		holdFaults(t, r, fault{"reply α 1 " + text + " []", e, 11}, fault{"reply 🦉 1   " + text, e, 13})
	}
	holdFaults(t, r, fault{"reply α 1 -α []", api.ErrWord, 12}, fault{"reply α 1 α- []", api.ErrWord, 12}, fault{"reply α 1 -- []", api.ErrWord, 12})
}

func TestP802Tags(t *testing.T) {
	r := must(t, "αβγ")
	for _, tag := range []int{0, 1, 10, 65536, api.MaxTag - 1, api.MaxTag} {
		digits := strconv.Itoa(tag)
		holdNote(t, r, "rumor β [α?"+digits+" γ!"+digits+"]", wire.Rumor{From: 1, News: news(suspicion(0, tag), mistake(2, tag))})
	}
	for _, digits := range []string{"1048577", "4294967296", "1099511627776"} {
		holdFaults(t, r,
			fault{"rumor β [α?" + digits + "]", api.ErrNews, 12},
			fault{"rumor β [α ! " + digits, api.ErrNews, 14},
			fault{"query β 1 [α!1 γ ? " + digits + " δ", api.ErrNews, 20},
		)
	}
	holdFaults(t, r, fault{"rumor β [α?-1]", api.ErrWord, 12}, fault{"rumor β [α?00]", api.ErrNumber, 12})
}

func TestP802NoticesRise(t *testing.T) {
	r := must(t, "βαγδ")
	holdNote(t, r, "rumor β [β!1 α!1 γ?0 δ?7]", wire.Rumor{News: news(mistake(0, 1), mistake(1, 1), suspicion(2, 0), suspicion(3, 7))})
	holdFaults(t, r,
		fault{"rumor β [α!1 β!1]", api.ErrNews, 14},
		fault{"rumor β [α!1 α!1]", api.ErrNews, 14},
		fault{"rumor β [α!1 α?2]", api.ErrNews, 14},
		fault{"rumor β [β!1 δ!1 γ!1]", api.ErrNews, 18},
		fault{"rumor β [β!1 α!1 γ!1 δ!1 δ!2]", api.ErrNews, 26},
		fault{"rumor β [β!1 α!1 γ!1 δ!1 β!2]", api.ErrNews, 26},
		// The sign offends ahead of what stands behind it, and a sign of no node ahead of the order.
		fault{"rumor β [α!1 β", api.ErrNews, 14},
		fault{"rumor β [α!1 β+", api.ErrNews, 14},
		fault{"rumor β [α!1 β!1048577]", api.ErrNews, 14},
		fault{"rumor β [δ!1 ε!1]", api.ErrSign, 14},
		fault{"rumor β [δ!1048577 β!1]", api.ErrNews, 12},
	)
}

func TestP802FurtherLines(t *testing.T) {
	r := must(t, "αβγ")
	holdFaults(t, r,
		fault{"rumor α []\n\n  # y\n   x", api.ErrWord, 4},
		fault{"rumor α []\nrumor α []", api.ErrWord, 1},
		fault{"rumor α []\n\t\"a\" b", api.ErrWord, 2},
		fault{"rumor α\n[]", api.ErrWord, 8},
		fault{"rumor α # x\n[]", api.ErrWord, 12},
		fault{"rumor\nα []", api.ErrWord, 6},
		fault{"rumor α [β!1\n]", api.ErrWord, 13},
		fault{"rumor α [] x\ny", api.ErrWord, 12},
		fault{"\n\nrumor α [] 5\ny", api.ErrWord, 12},
		fault{"x\nrumor α []", api.ErrWord, 1},
	)
}

func TestP802NoPartOfANoteIsOne(t *testing.T) {
	r := must(t, "αβγ")
	for _, text := range []string{"query α 5 [β?3 γ!2]", "reply γ 1 αγ [β?3]", "reply γ 1 - []", "rumor β []"} {
		for at := range text {
			if x, e, col := tell.Read(r, text[:at]); x != nil || e == api.OK || col == 0 {
				t.Errorf("Read(%q): %#v, error %d, column %d", text[:at], x, e, col)
			}
		}
	}
}

func TestP802NewsAreNewMemory(t *testing.T) {
	r := must(t, "αβγ")
	first, _, _ := tell.Read(r, "query α 5 [β?3 γ!2]")
	first.(wire.Query).News[0] = mistake(0, 9)
	holdNote(t, r, "query α 5 [β?3 γ!2]", wire.Query{Round: 5, News: news(suspicion(1, 3), mistake(2, 2))})
}

// states are what may stand next, as a word or as the line's end.
const (
	atFirst = iota
	atSender
	atRound
	atHeard
	atOpen
	atNotice
	atMark
	atTag
	atEnd
	atFurther
)

// model reads words, of which it knows no more than their texts, by a table of states; it tells the word that offends too.
type model struct {
	signs []string
	state int
	kind  string
	from  int
	round int
	heard api.Set
	news  []api.Notice
}

func isOneLetter(w string) bool {
	return utf8.RuneCountInString(w) == 1 && isName(w)
}

func isName(w string) bool { return w[0] >= 'a' && w[0] <= 'z' || w[0] >= 0x80 }

func isDigits(w string) bool { return w[0] >= '0' && w[0] <= '9' }

// step reads one word; it tells why that offends.
func (m *model) step(w string) api.Errno {
	id := slices.Index(m.signs, w)
	number, _ := strconv.Atoi(w)
	behind := map[string]int{"query": atRound, "reply": atRound, "rumor": atOpen}
	switch m.state {
	case atFirst:
		if behind[w] == 0 {
			return api.ErrWord
		}
		m.kind, m.state = w, atSender
	case atSender:
		if !isOneLetter(w) {
			return api.ErrWord
		}
		if id < 0 {
			return api.ErrSign
		}
		m.from, m.state = id, behind[m.kind]
	case atRound:
		if !isDigits(w) {
			return api.ErrWord
		}
		if number == 0 || number >= 1<<40 {
			return api.ErrRound
		}
		m.round, m.state = number, atOpen
		if m.kind == "reply" {
			m.state = atHeard
		}
	case atHeard:
		m.state = atOpen
		return m.set(w)
	case atOpen:
		if w != "[" {
			return api.ErrWord
		}
		m.state = atNotice
	default:
		return m.stepOfNews(w, id, number)
	}
	return api.OK
}

func (m *model) set(w string) api.Errno {
	if w == "-" {
		return api.OK
	}
	if !isName(w) {
		return api.ErrWord
	}
	for _, c := range w {
		id := slices.Index(m.signs, string(c))
		if id < 0 {
			return api.ErrSign
		}
		if m.heard[id/32]>>(id%32)&1 == 1 {
			return api.ErrTwice
		}
		m.heard[id/32] |= 1 << (id % 32)
	}
	return api.OK
}

func (m *model) stepOfNews(w string, id, number int) api.Errno {
	switch m.state {
	case atNotice:
		if w == "]" {
			m.state = atEnd
			return api.OK
		}
		if !isOneLetter(w) {
			return api.ErrWord
		}
		if id < 0 {
			return api.ErrSign
		}
		for _, x := range m.news {
			if x.Of >= id {
				return api.ErrNews
			}
		}
		m.news, m.state = append(m.news, api.Notice{Of: id}), atMark
	case atMark:
		kind := map[string]int{"?": api.Suspicion, "!": api.Mistake}[w]
		if kind == 0 {
			return api.ErrWord
		}
		m.news[len(m.news)-1].Kind, m.state = kind, atTag
	case atTag:
		if !isDigits(w) {
			return api.ErrWord
		}
		if number > 1<<20 {
			return api.ErrNews
		}
		m.news[len(m.news)-1].Tag, m.state = number, atNotice
	case atEnd:
		if w != "\n" {
			return api.ErrWord
		}
		m.state = atFurther
	default:
		return api.ErrWord
	}
	return api.OK
}

func (m *model) note() wire.Note {
	switch m.kind {
	case "query":
		return wire.Query{From: m.from, Round: m.round, News: m.news}
	case "reply":
		return wire.Reply{From: m.from, Round: m.round, Heard: m.heard, News: m.news}
	default:
		return wire.Rumor{From: m.from, News: m.news}
	}
}

// laidOut is a text of words ("\n" is a line's end), with their columns; those that say nothing are left out of them.
type laidOut struct {
	text  string
	words []string
	cols  []int
}

// layOut joins words by gaps, one after the other, and puts a tail behind them.
func layOut(words []string, gaps []string, tail string) laidOut {
	var l laidOut
	col, some := 1, false
	add := func(piece string) {
		l.text += piece
		col += utf8.RuneCountInString(piece)
	}
	end := func() {
		if some {
			l.words, l.cols = append(l.words, "\n"), append(l.cols, col)
		}
		some = false
	}
	for i, w := range words {
		if w == "\n" {
			end()
			l.text += w
			col = 1
			continue
		}
		add(gaps[i%len(gaps)])
		l.words, l.cols, some = append(l.words, w), append(l.cols, col), true
		add(w)
	}
	add(tail)
	end()
	return l
}

// holdModel holds Read of words, laid out in some ways, against the model.
func holdModel(t *testing.T, r roster.Roster, words []string) {
	t.Helper()
	for _, l := range []laidOut{
		layOut(words, []string{" "}, ""),
		layOut(words, []string{"\t ", "  ", "\r"}, " # é\xFF"),
	} {
		m := model{signs: strings.Split(r.Text(), "")}
		var want wire.Note
		wrong, col := api.ErrWord, 1
		for i, w := range l.words {
			wrong, col = m.step(w), l.cols[i]
			if wrong != api.OK {
				break
			}
		}
		if wrong == api.OK {
			want, col = m.note(), 0
		}
		if x, e, at := tell.Read(r, l.text); !alike(x, want) || e != wrong || at != col {
			t.Fatalf("Read(%q): %#v, error %d, column %d, not %#v, %d, %d", l.text, x, e, at, want, wrong, col)
		}
	}
}

// wordsToTry has words of every kind, those that may stand somewhere and those that never do.
func wordsToTry() []string {
	return []string{
		"query", "reply", "rumor", "ask", "querying", "α", "β", "🦉", "δ", "αβ", "🦉βα", "ββ", "αδ", "αα",
		"0", "1", "7", "1048576", "1048577", "1099511627775", "1099511627776",
		"-", "[", "]", "?", "!", "+", "(", "\"α\"", "\"query\"", "\n",
	}
}

// goodLines are the words of notes.
func goodLines() [][]string {
	return [][]string{
		strings.Fields("query α 7 [ ]"),
		strings.Fields("query 🦉 1099511627775 [ α ? 1 β ! 1048576 🦉 ? 0 ]"),
		strings.Fields("reply α 1 - [ ]"),
		strings.Fields("reply β 1 🦉βα [ β ! 7 🦉 ? 1 ]"),
		strings.Fields("rumor β [ ]"),
		strings.Fields("rumor β [ α ! 0 β ? 7 ]"),
	}
}

func TestP802AllShortLines(t *testing.T) {
	r := must(t, "αβ🦉")
	holdModel(t, r, nil)
	for _, a := range wordsToTry() {
		holdModel(t, r, []string{a})
		for _, b := range wordsToTry() {
			holdModel(t, r, []string{a, b})
			for _, c := range wordsToTry() {
				holdModel(t, r, []string{a, b, c})
			}
		}
	}
}

func TestP802EachWordExchangedPutInLeftOut(t *testing.T) {
	r := must(t, "αβ🦉")
	for _, line := range goodLines() {
		holdModel(t, r, line)
		for at := range len(line) + 1 {
			holdModel(t, r, line[:at])
			for _, w := range wordsToTry() {
				holdModel(t, r, slices.Insert(slices.Clone(line), at, w))
				if at == len(line) {
					continue
				}
				holdModel(t, r, slices.Delete(slices.Clone(line), at, at+1))
				holdModel(t, r, slices.Replace(slices.Clone(line), at, at+1, w))
			}
		}
	}
}

func TestP802EachTwoWordsExchanged(t *testing.T) {
	r := must(t, "αβ🦉")
	for _, line := range goodLines() {
		for second := range min(len(line), 10) {
			for first := range second {
				for _, a := range wordsToTry() {
					for _, b := range wordsToTry() {
						other := slices.Clone(line)
						other[first], other[second] = a, b
						holdModel(t, r, other)
					}
				}
			}
		}
	}
}
