package earshot_test

import (
	"fmt"
	"slices"
	"strconv"
	"strings"
	"testing"
	"unicode/utf8"

	"earshot/api"
	"earshot/cluster"
	"earshot/earshot"
	"earshot/script"
	"earshot/wire"
)

func itoa(v int) string { return strconv.Itoa(v) }

// plainRun writes a transcript by the layers below, and fmt.
func plainRun(text string) string {
	rules, steps, e, line := script.Parse(text)
	if e != api.OK {
		return fmt.Sprintf("script error %d at %d\n", e, line)
	}
	p := plain{signs: []rune(rules.Signs)}
	c, e := cluster.New(len(p.signs), rules.F)
	if e != api.OK {
		return "rules refused\n"
	}
	p.put("start\n")
	p.events(c.History())
	for i, s := range steps {
		a := c.Do(s)
		p.put("%d: %s", i, p.step(s))
		if a.Code != 0 {
			p.put(" refused %d", a.Code)
		}
		p.put("\n")
		p.events(a.Events)
		if s.Kind == api.StepTurn {
			p.put("  polls")
			for _, e := range a.Polls {
				p.put(" %d", e)
			}
			p.put("\n")
		}
	}
	p.put("end\n")
	for id, sign := range p.signs {
		s, _ := c.Sight(id)
		if s.Up {
			p.put("  %c up life %d round %d tag %d suspects %s heard %s repliers %s\n", sign, s.Life, s.Round, s.Tag, p.set(s.Suspects), p.set(s.Heard), p.set(s.Repliers))
		} else {
			p.put("  %c down\n", sign)
		}
	}
	p.put("bag %d\n", len(c.Bag()))
	for _, g := range c.Bag() {
		from := '?'
		if g.From >= 0 {
			from = p.signs[g.From]
		}
		p.put("  %c to %c %s\n", from, p.signs[g.To], p.says(g.Data))
	}
	return p.out.String()
}

// plain writes by signs.
type plain struct {
	signs []rune
	out   strings.Builder
}

func (p *plain) put(form string, args ...any) { fmt.Fprintf(&p.out, form, args...) }

func (p *plain) set(s api.Set) string {
	text := ""
	for id, sign := range p.signs {
		if s[id/32]>>(id%32)&1 == 1 {
			text += string(sign)
		}
	}
	if text == "" {
		return "-"
	}
	return text
}

func (p *plain) events(l []api.Event) {
	for _, e := range l {
		p.put("  %c ", p.signs[e.Node])
		switch e.Kind {
		case api.EventBegin:
			p.put("begins life %d tag %d round %d\n", e.Life, e.Tag, e.Round)
		case api.EventAsk:
			p.put("asks %d\n", e.Round)
		case api.EventClose:
			p.put("closes %d heard %s of %s\n", e.Round, p.set(e.Heard), p.set(e.Union))
		case api.EventDoubt:
			p.put("doubts %c at %d\n", p.signs[e.Of], e.Tag)
		case api.EventDefend:
			p.put("defends %d durable %d\n", e.Tag, e.Durable)
		case api.EventDown:
			p.put("is down\n")
		}
	}
}

func (p *plain) step(s api.Step) string {
	name := []string{"", "poll", "deliver", "drop", "double", "move", "spoil", "forge", "crash", "fuse", "restart", "flush", "turn"}[s.Kind]
	switch s.Kind {
	case api.StepPoll, api.StepCrash, api.StepRestart:
		return fmt.Sprintf("%s %c", name, p.signs[s.A])
	case api.StepFuse:
		return fmt.Sprintf("%s %c %d", name, p.signs[s.A], s.B)
	case api.StepForge:
		return fmt.Sprintf("%s %c %s", name, p.signs[s.A], quoted(s.Data))
	case api.StepMove:
		return fmt.Sprintf("%s %d %d", name, s.A, s.B)
	case api.StepSpoil:
		return fmt.Sprintf("%s %d %d %d", name, s.A, s.B, s.C)
	}
	return fmt.Sprintf("%s %d", name, s.A)
}

func (p *plain) says(data []byte) string {
	x, e := wire.Decode(data, len(p.signs))
	if e != api.OK {
		return "? " + quoted(data)
	}
	news := []string{}
	for _, y := range x.Notices() {
		news = append(news, fmt.Sprintf("%c%c%d", p.signs[y.Of], " !?"[y.Kind], y.Tag))
	}
	ride, from := "["+strings.Join(news, " ")+"]", p.signs[x.Sender()]
	switch q := x.(type) {
	case wire.Query:
		return fmt.Sprintf("query %c %d %s", from, q.Round, ride)
	case wire.Reply:
		return fmt.Sprintf("reply %c %d %s %s", from, q.Round, p.set(q.Heard), ride)
	}
	return fmt.Sprintf("rumor %c %s", from, ride)
}

// quoted writes a quoted text as its rule says.
func quoted(data []byte) string {
	short := map[byte]string{'"': `\"`, '\\': `\\`, '\n': `\n`, '\t': `\t`, '\r': `\r`}
	out := `"`
	for len(data) > 0 {
		r, size := utf8.DecodeRune(data)
		b := data[0]
		switch {
		case short[b] != "":
			out += short[b]
		case b < 32 || b == 127 || r == utf8.RuneError && size == 1:
			out += fmt.Sprintf(`\x%02x`, b)
		case r >= 0x80 && r < 0xA0 || r >= 0x200B && r <= 0x200F || r >= 0x2028 && r <= 0x202E || r == 0xFEFF:
			out += fmt.Sprintf(`\u{%x}`, r)
		default:
			out += string(data[:size])
		}
		data = data[size:]
	}
	return out + `"`
}

// dice is a source of numbers that go alike each time.
type dice uint64

func (d *dice) below(n int) int {
	*d = *d*6364136223846793005 + 1442695040888963407
	return int(uint64(*d) >> 33 % uint64(n))
}

// script tells a script of so many steps, in which most of what can happen does.
func (d *dice) script(n, steps int) string {
	signs := []rune("aéα가🦉xyz")[:n]
	lines := []string{"nodes \"" + string(signs) + "\" faults " + itoa(d.below(n))}
	for range steps {
		lines = append(lines, d.line(signs))
	}
	return strings.Join(lines, "\n")
}

func (d *dice) line(signs []rune) string {
	sign, number := string(signs[d.below(len(signs))]), itoa(d.below(50))
	switch d.below(24) {
	case 0:
		return "drop " + number
	case 1:
		return "double " + number
	case 2:
		return "move " + number + " " + itoa(d.below(50))
	case 3:
		return "spoil " + number + " " + itoa(d.below(30)) + " " + itoa(d.below(258))
	case 4:
		return "forge " + sign + " " + quoted(d.data(len(signs)))
	case 5:
		return "crash " + sign
	case 6, 7, 8:
		return "restart " + sign
	case 9:
		return "fuse " + sign + " " + itoa(d.below(5))
	case 10:
		return "flush " + number
	case 11, 12:
		return "turn " + number
	case 13, 14, 15, 16, 17:
		return "poll " + sign
	}
	return "deliver " + number
}

// data tells bytes of a note, or some others.
func (d *dice) data(n int) []byte {
	var news []api.Notice
	for id := range n {
		if d.below(3) == 0 {
			news = append(news, api.Notice{Of: id, Tag: d.below(9), Kind: 1 + d.below(2)})
		}
	}
	from, round := d.below(n), 1+d.below(20)
	var data []byte
	switch d.below(4) {
	case 0:
		data, _ = wire.Query{From: from, Round: round, News: news}.Bytes(n)
	case 1:
		data, _ = wire.Reply{From: from, Round: round, Heard: api.Set{uint32(d.below(1 << n))}, News: news}.Bytes(n)
	case 2:
		data, _ = wire.Rumor{From: from, News: news}.Bytes(n)
	default:
		for range d.below(20) {
			data = append(data, byte(d.below(256)))
		}
		data = append(data, "α\"\\\n\u200B🦉"[:d.below(12)]...)
	}
	return data
}

// holdWhole holds all that is said of a text against the model, and what follows of it.
func holdWhole(t testing.TB, text string) {
	t.Helper()
	want := plainRun(text)
	holdRun(t, text, want)
	holdPlayed(t, text)
	holdLaws(t, text)
	// What Parse reads is the same in its one form.
	if rules, steps, e, _ := script.Parse(text); e == api.OK {
		if form, e := script.Print(rules, steps); e == api.OK {
			holdRun(t, form, want)
		}
	}
}

// holdPlayed holds Play and Last against the layers below.
func holdPlayed(t testing.TB, text string) {
	t.Helper()
	rules, steps, e, line := script.Parse(text)
	if e != api.OK {
		holdFault(t, text, e, line)
		return
	}
	c, e := cluster.New(utf8.RuneCountInString(rules.Signs), rules.F)
	if e != api.OK {
		holdFault(t, text, e, 0)
		return
	}
	var answers []api.Answer
	for _, s := range steps {
		answers = append(answers, c.Do(s))
	}
	var seen []api.Sight
	for id := range c.Size() {
		s, _ := c.Sight(id)
		seen = append(seen, s)
	}
	hold(t, "Play", slim(play(t, text)), slim(answers))
	hold(t, "Last", last(t, text), seen)
}

func TestP2103Model(t *testing.T) {
	all := ""
	for seed := range 400 {
		d := dice(seed)
		text := d.script(1+seed%8, 20+d.below(80))
		holdWhole(t, text)
		if t.Failed() {
			t.FailNow()
		}
		all += earshot.Run(text)
	}
	// Nothing of what a transcript may have is left out.
	for _, piece := range []string{" begins ", " asks ", " closes ", " doubts ", " defends ", " is down\n", " down\n", "  polls\n", "  polls 0", " 170\n", " ? \"", "  ? to ", " query ", " reply ", " rumor ", "?0", "!4", " refused 1\n", " refused 77\n", " refused 91\n", " refused 100\n", " refused 171\n", " refused 172\n", "bag 0\n"} {
		if !strings.Contains(all, piece) {
			t.Errorf("no transcript has %q", piece)
		}
	}
}

// TestP2103OtherSigns: with other signs all is told alike.
func TestP2103OtherSigns(t *testing.T) {
	ours, theirs := []rune("がぎぐげご"), []rune("🌍🌎🌏🌑🌒")
	var pairs []string
	for i := range ours {
		pairs = append(pairs, string(ours[i]), string(theirs[i]))
	}
	exchange := strings.NewReplacer(pairs...)
	for seed := range 60 {
		d := dice(seed)
		lines := []string{"nodes \"" + string(ours) + "\" faults " + itoa(d.below(5))}
		for range 60 {
			lines = append(lines, d.line(ours))
		}
		text := strings.Join(lines, "\n")
		holdRun(t, exchange.Replace(text), exchange.Replace(earshot.Run(text)))
	}
}

// FuzzRun: whatever the text is, the calls end, and tell what the model does.
func FuzzRun(f *testing.F) {
	for _, text := range []string{"", "x", exampleScript, doubtScript, turnScript, forgeScript, fuseScript} {
		f.Add(text)
	}
	f.Fuzz(func(t *testing.T, text string) {
		if strings.Count(text, "turn") > 50 && utf8.RuneCountInString(text) > 500 {
			return // it would take too long
		}
		holdWhole(t, text)
	})
}

func TestP2101AnyBytes(t *testing.T) {
	// No piece of a script, and none with a byte turned, is told as what it is not.
	whole := strings.TrimPrefix(forgeScript, "\n")
	for at := 0; at < len(whole); at += 3 {
		for _, text := range []string{whole[:at], whole[at:], whole[:at] + whole[at+1:], whole[:at] + "\xFF" + whole[at:], whole[:at] + "\n" + whole[at:]} {
			holdWhole(t, text)
		}
		if t.Failed() {
			t.FailNow()
		}
	}
	lines := strings.SplitAfter(doubtScript, "\n")
	for i := range lines {
		holdWhole(t, strings.Join(slices.Delete(slices.Clone(lines), i, i+1), ""))
	}
}
