package script_test

import (
	"slices"
	"strconv"
	"strings"
	"testing"
	"unicode/utf8"

	"earshot/api"
	"earshot/script"
)

// sort tells what a word is by its first byte: n of a name, s of one that may be a sign, # of a number, t of a text, ? of all others.
func sort(w string) byte {
	switch {
	case w[0] == '"':
		return 't'
	case w[0] >= '0' && w[0] <= '9':
		return '#'
	case w[0] < 'A' || w[0] > 'Z' && w[0] < 'a' || w[0] > 'z' && w[0] < 0x80:
		return '?'
	case utf8.RuneCountInString(w) == 1:
		return 's'
	}
	return 'n'
}

// sorts tells what the words of a line are, one letter for each.
func sorts(words []string) string {
	var out []byte
	for _, w := range words {
		out = append(out, sort(w))
	}
	return string(out)
}

// grammar tells by a step's name its kind, and what words stand behind the name.
func grammar() map[string]struct {
	kind int
	has  string
} {
	return map[string]struct {
		kind int
		has  string
	}{
		"poll": {1, "s"}, "deliver": {2, "#"}, "drop": {3, "#"}, "double": {4, "#"}, "move": {5, "##"}, "spoil": {6, "###"},
		"forge": {7, "st"}, "crash": {8, "s"}, "fuse": {9, "s#"}, "restart": {10, "s"}, "flush": {11, "#"}, "turn": {12, "#"},
	}
}

// model is a script that is read line by line, its words being known.
type model struct {
	rules api.Rules
	begun bool
	steps []api.Step
}

// line reads the words of one line; it tells why that offends.
func (m *model) line(words []string) api.Errno {
	if m.begun {
		return m.step(words)
	}
	if sorts(words) != "ntn#" || words[0] != "nodes" || words[2] != "faults" {
		return api.ErrScript
	}
	m.rules.Signs = strings.Trim(words[1], "\"") // no text here has an escape
	m.rules.F, _ = strconv.Atoi(words[3])
	m.begun = true
	if m.rules.Signs == "" {
		return api.ErrNone
	}
	for i, r := range m.rules.Signs {
		if sort(string(r)) != 's' {
			return api.ErrSign
		}
		if strings.ContainsRune(m.rules.Signs[:i], r) {
			return api.ErrTwice
		}
	}
	return api.OK
}

// step reads the words of a step.
func (m *model) step(words []string) api.Errno {
	g, is := grammar()[words[0]]
	if !is || g.has != sorts(words[1:]) {
		return api.ErrScript
	}
	s, numbers := api.Step{Kind: g.kind}, []int{}
	for _, w := range words[1:] {
		switch sort(w) {
		case 's':
			at := strings.Index(m.rules.Signs, w)
			if at < 0 {
				return api.ErrSign
			}
			numbers = append(numbers, utf8.RuneCountInString(m.rules.Signs[:at]))
		case '#':
			v, _ := strconv.Atoi(w)
			numbers = append(numbers, v)
		default:
			s.Data = []byte(strings.Trim(w, "\""))
		}
	}
	numbers = append(numbers, 0, 0)
	s.A, s.B, s.C = numbers[0], numbers[1], numbers[2]
	m.steps = append(m.steps, s)
	return api.OK
}

// holdModel holds Parse of lines of words, laid out in some ways, against the model.
func holdModel(t testing.TB, lines ...[]string) {
	t.Helper()
	for _, gap := range []struct{ ahead, between, behind string }{{"", " ", "\n"}, {"\t", " \t\r", " # \xFF×\"\n\n"}, {"# x\n\n ", "\t", "\r\n"}} {
		var m model
		var text strings.Builder
		wrong, place := api.OK, 0
		for _, words := range lines {
			text.WriteString(gap.ahead)
			if wrong == api.OK && len(words) > 0 {
				wrong, place = m.line(words), 1+strings.Count(text.String(), "\n")
			}
			text.WriteString(strings.Join(words, gap.between) + gap.behind)
		}
		switch {
		case wrong != api.OK:
			holdFault(t, text.String(), wrong, place)
		case !m.begun:
			holdFault(t, text.String(), api.ErrScript, 0)
		default:
			holdRead(t, text.String(), m.rules, m.steps...)
			holdOneForm(t, text.String())
		}
		if t.Failed() {
			t.FailNow()
		}
	}
}

// wordsToTry has words of every sort, those that may stand somewhere and those that never do.
func wordsToTry() []string {
	return []string{
		"nodes", "faults", "poll", "deliver", "drop", "double", "move", "spoil", "forge", "crash", "fuse", "restart", "flush", "turn",
		"polls", "Turn", "α", "β", "🦉", "γ", "p", "αβ", "0", "1", "12", "1099511627776", "\"\"", "\"αβ\"", "\"αα\"", "\"α1\"", "\"🦉\"", "-", "?", "[",
	}
}

// rulesLine is a line of rules that the model reads.
func rulesLine() []string { return []string{"nodes", "\"αβ🦉\"", "faults", "1"} }

func TestP2001AllShortLines(t *testing.T) {
	holdModel(t)
	holdModel(t, nil, nil)
	for _, a := range wordsToTry() {
		holdModel(t, []string{a})
		holdModel(t, rulesLine(), []string{a})
		for _, b := range wordsToTry() {
			holdModel(t, []string{a, b})
			holdModel(t, rulesLine(), []string{a, b})
			for _, c := range wordsToTry() {
				holdModel(t, rulesLine(), []string{a, b, c})
			}
		}
	}
}

// goodLines are the words of rules, and of steps of each kind.
func goodLines() [][]string {
	l := [][]string{rulesLine()}
	for _, line := range []string{
		"poll 🦉", "deliver 12", "drop 1", "double 0", "move 1 12", "spoil 0 12 1099511627776", "forge β \"αβ\"", "crash α", "fuse 🦉 1099511627776", "restart β", "flush 1", "turn 0",
	} {
		l = append(l, strings.Fields(line))
	}
	return l
}

func TestP2001EachWordExchangedPutInLeftOut(t *testing.T) {
	good := goodLines()
	holdModel(t, good...)
	for i, line := range good {
		turned := slices.Clone(good)
		for at := range len(line) + 1 {
			for _, w := range wordsToTry() {
				turned[i] = slices.Insert(slices.Clone(line), at, w)
				holdModel(t, turned...)
				if at < len(line) {
					turned[i] = slices.Replace(slices.Clone(line), at, at+1, w)
					holdModel(t, turned...)
				}
			}
			if at < len(line) {
				turned[i] = slices.Delete(slices.Clone(line), at, at+1)
				holdModel(t, turned...)
			}
		}
		holdModel(t, slices.Delete(slices.Clone(good), i, i+1)...)
		for j := range good {
			turned = slices.Clone(good)
			turned[i], turned[j] = good[j], good[i]
			holdModel(t, turned...)
		}
	}
}

// holdOneForm holds of a text that Parse reads: Print writes it, that is read as it was, and written as it is.
func holdOneForm(t testing.TB, text string) {
	t.Helper()
	r, steps, e, _ := script.Parse(text)
	if e != api.OK {
		return
	}
	form, e := script.Print(r, steps)
	if e == api.ErrLong {
		return
	}
	if e != api.OK {
		t.Errorf("Print of Parse(%q): error %d", begin(text), e)
		return
	}
	holdRead(t, form, r, steps...)
	holdWritten(t, form, r, steps...)
}

// dice is a source of numbers that go alike each time.
type dice uint64

func (d *dice) below(n int) int {
	*d = *d*6364136223846793005 + 1442695040888963407
	return int(uint64(*d) >> 33 % uint64(n))
}

// bytes tells bytes of which some are characters of several bytes, some are loose.
func (d *dice) bytes() []byte {
	var out []byte
	for range d.below(12) {
		switch d.below(4) {
		case 0:
			out = append(out, byte(d.below(256)))
		case 1:
			out = utf8.AppendRune(out, rune(d.below(0x11000)))
		case 2:
			out = append(out, "\"\\\n\t\r\x00\x7F#"[d.below(8)])
		default:
			out = append(out, "aéα🦉"...)
		}
	}
	return out
}

// number tells one that a text may have.
func (d *dice) number() int {
	return []int{0, 1, d.below(10), d.below(300), d.below(1 << 30), api.MaxNumber}[d.below(6)]
}

// step tells a step of any kind among n nodes.
func (d *dice) step(n int) api.Step {
	s := api.Step{Kind: 1 + d.below(12)}
	has := fields()[s.Kind]
	for i := range 3 {
		switch has[i] {
		case 'n':
			s = put(s, i, d.below(n))
		case '#':
			s = put(s, i, d.number())
		}
	}
	if has[3] == '*' {
		s.Data = d.bytes()
	}
	return s
}

// plain writes a script from the grammar alone; no text has more than one form of it.
func plain(r api.Rules, steps []api.Step) string {
	lines := []string{"nodes \"" + r.Signs + "\" faults " + strconv.Itoa(r.F), ""}
	for _, s := range steps {
		for name, g := range grammar() {
			if g.kind == s.Kind {
				lines = slices.Insert(lines, len(lines)-1, plainStep(r, s, name, g.has))
			}
		}
	}
	return strings.Join(lines, "\n")
}

func plainStep(r api.Rules, s api.Step, name, has string) string {
	signs, numbers := []rune(r.Signs), []int{s.A, s.B, s.C}
	words := []string{name}
	for i, what := range has {
		switch what {
		case 's':
			words = append(words, string(signs[numbers[i]]))
		case '#':
			words = append(words, strconv.Itoa(numbers[i]))
		default:
			words = append(words, plainQuote(s.Data))
		}
	}
	return strings.Join(words, " ")
}

// plainQuote writes what can't stand in a text as it is as its rule says.
func plainQuote(data []byte) string {
	short := map[byte]string{'"': `\"`, '\\': `\\`, '\n': `\n`, '\t': `\t`, '\r': `\r`}
	out := `"`
	for len(data) > 0 {
		r, size := utf8.DecodeRune(data)
		b := data[0]
		switch {
		case short[b] != "":
			out += short[b]
		case b < 32 || b == 127 || r == utf8.RuneError && size == 1:
			out += `\x` + strconv.FormatInt(int64(b)+256, 16)[1:]
		case r >= 0x80 && r < 0xA0 || r >= 0x200B && r <= 0x200F || r >= 0x2028 && r <= 0x202E || r == 0xFEFF:
			out += `\u{` + strconv.FormatInt(int64(r), 16) + `}`
		default:
			out += string(data[:size])
		}
		data = data[size:]
	}
	return out + `"`
}

func TestP2003ThereAndBack(t *testing.T) {
	kinds := map[int]int{}
	for seed := range 600 {
		d := dice(seed)
		n := 1 + d.below(5)
		if seed%20 == 0 {
			n = api.MaxNodes
		}
		r := api.Rules{Signs: letters(n), F: d.number()}
		if n == 5 {
			r.Signs = "aéα가🦉"
		}
		var steps []api.Step
		for range d.below(60) {
			s := d.step(n)
			steps = append(steps, s)
			kinds[s.Kind]++
		}
		text := plain(r, steps)
		holdWritten(t, text, r, steps...)
		holdRead(t, text, r, steps...)
		if t.Failed() {
			t.FailNow()
		}
	}
	for kind := api.StepPoll; kind <= api.StepTurn; kind++ {
		if kinds[kind] < 100 {
			t.Errorf("too few steps of a kind: %v", kinds)
		}
	}
}

// TestP2003WhatIsTooLong: a text may say shorter what Print writes longer; then, and only then, it is not written.
func TestP2003WhatIsTooLong(t *testing.T) {
	for _, many := range []int{1, 1000, 10900, 10919, 10920, 11000, 32000} {
		text := head + "forge α \"" + strings.Repeat("\u0080", many) + "\"\n"
		r, steps, e, _ := script.Parse(text)
		if e != api.OK || len(steps) != 1 || len(steps[0].Data) != 2*many {
			t.Fatalf("Parse of %d characters: error %d", many, e)
		}
		want := api.OK
		if len(text)+4*many > api.MaxText {
			want = api.ErrLong
		}
		if form, e := script.Print(r, steps); e != want || e == api.OK && len(form) != len(text)+4*many {
			t.Errorf("Print of %d characters: %d bytes, error %d, not %d", many, len(form), e, want)
		}
		holdOneForm(t, text)
	}
}

// holdLine holds what is said of a line beside each error.
func holdLine(t testing.TB, text string) {
	t.Helper()
	r, steps, e, line := script.Parse(text)
	if e == api.OK && line == 0 {
		return
	}
	inside := line >= 1 && line <= 1+strings.Count(text, "\n")
	if r != (api.Rules{}) || len(steps) > 0 || e == api.OK || !inside && (line != 0 || e != api.ErrScript && e != api.ErrLong) {
		t.Errorf("Parse(%q): %v, %v, error %d, line %d", begin(text), r, steps, e, line)
	}
}

func TestP2001AnyBytes(t *testing.T) {
	whole := head
	for _, c := range said() {
		whole += c.line + "\n"
	}
	// No piece of it, and none with a byte turned, is read as what it is not.
	for at := range len(whole) {
		for _, text := range []string{whole[:at], whole[at:], whole[:at] + whole[at+1:], whole[:at] + "\xFF" + whole[at:], whole[:at] + "\n" + whole[at:], whole[:at] + "\"" + whole[at+1:]} {
			holdLine(t, text)
			holdOneForm(t, text)
		}
	}
	d := dice(7)
	for range 3000 {
		text := []byte(whole)
		for range 1 + d.below(6) {
			text[d.below(len(text))] = byte(d.below(256))
		}
		holdLine(t, string(text))
		holdOneForm(t, string(text))
	}
}

// FuzzP2003WhatIsReadHasOneForm takes any text as a script.
func FuzzP2003WhatIsReadHasOneForm(f *testing.F) {
	for _, c := range said() {
		f.Add(head + c.line)
	}
	f.Add("\n# x\nnodes \"\\u{3b1}\" faults 1099511627776\r\nforge α \"\\x0A\"\n\n")
	f.Fuzz(func(t *testing.T, text string) {
		holdLine(t, text)
		holdOneForm(t, text)
	})
}

// FuzzP2002AnyStep takes any numbers and bytes as a script of one step.
func FuzzP2002AnyStep(f *testing.F) {
	f.Add("αβ", 1, 9, 1, 7, 0, []byte(nil))
	f.Add("aéα가🦉", 1<<40, 7, 4, 0, 0, []byte("é\xFF\n"))
	f.Add("αα", -1, 13, -1, 1<<41, 1, []byte{0})
	f.Fuzz(func(t *testing.T, signs string, faults, kind, a, b, c int, data []byte) {
		r, s := api.Rules{Signs: signs, F: faults}, api.Step{Kind: kind, A: a, B: b, C: c, Data: data}
		text, e := script.Print(r, []api.Step{s})
		switch e {
		case api.OK:
			holdRead(t, text, r, s)
		case api.ErrScript, api.ErrLong:
			holdRefused(t, e, r, s)
		default:
			t.Errorf("Print(%v, %v): error %d", r, s, e)
		}
	})
}
