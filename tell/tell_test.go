package tell_test

import (
	"math"
	"reflect"
	"slices"
	"strconv"
	"testing"

	"earshot/api"
	"earshot/roster"
	"earshot/tell"
	"earshot/wire"
)

func mistake(of, tag int) api.Notice { return api.Notice{Of: of, Tag: tag, Kind: api.Mistake} }

func suspicion(of, tag int) api.Notice { return api.Notice{Of: of, Tag: tag, Kind: api.Suspicion} }

func news(l ...api.Notice) []api.Notice { return l }

// setOf makes a set bit by bit, of any number that the four words have room for.
func setOf(ids ...int) api.Set {
	var s api.Set
	for _, id := range ids {
		s[id/32] |= 1 << (id % 32)
	}
	return s
}

// fullSet has the ids 0 to n - 1.
func fullSet(n int) api.Set {
	var s api.Set
	for id := range n {
		s[id/32] |= 1 << (id % 32)
	}
	return s
}

// must reads a text that is known to be a roster's.
func must(t testing.TB, text string) roster.Roster {
	t.Helper()
	r, at, e := roster.Read(text)
	if at != 0 || e != api.OK {
		t.Fatalf("Read(%q): %d, error %d", text, at, e)
	}
	return r
}

// signsOf tells n signs of one to four bytes each; their runes neither rise nor fall.
func signsOf(n int) []rune {
	var signs []rune
	for i := range n {
		switch i % 4 {
		case 0:
			signs = append(signs, 'z'-rune(i/4))
		case 1:
			signs = append(signs, 'α'+rune(i/4))
		case 2:
			signs = append(signs, '漢'-rune(i/4))
		default:
			signs = append(signs, '🦉'+rune(i/4))
		}
	}
	return signs
}

// fullNews has a notice of each of n nodes, of both kinds, at low and high tags.
func fullNews(n int) []api.Notice {
	var l []api.Notice
	for id := range n {
		switch id % 4 {
		case 0:
			l = append(l, mistake(id, 0))
		case 1:
			l = append(l, suspicion(id, api.MaxTag))
		case 2:
			l = append(l, mistake(id, 10+id))
		default:
			l = append(l, suspicion(id, 65536*id%api.MaxTag))
		}
	}
	return l
}

// samples are good notes of n nodes.
func samples(n int) []wire.Note {
	last := n - 1
	l := []wire.Note{
		wire.Query{From: 0, Round: 1},
		wire.Query{From: last, Round: api.MaxRound, News: fullNews(n)},
		wire.Query{From: n / 2, Round: 10, News: news(suspicion(last, 0))},
		wire.Reply{From: 0, Round: 1},
		wire.Reply{From: last, Round: api.MaxRound, Heard: fullSet(n), News: fullNews(n)},
		wire.Reply{From: last, Round: 256, Heard: setOf(last), News: news(mistake(0, 1))},
		wire.Rumor{From: 0},
		wire.Rumor{From: last, News: fullNews(n)},
		wire.Rumor{From: n / 2, News: news(mistake(last, api.MaxTag))},
	}
	for id := range n {
		l = append(l, wire.Reply{From: id, Round: 1 << (id % 40), Heard: setOf(id, n-1-id), News: news(suspicion(id, id))})
	}
	return l
}

// told has a note told by the call of its kind.
func told(r roster.Roster, x wire.Note) (string, api.Errno) {
	switch y := x.(type) {
	case wire.Query:
		return tell.Query(r, y)
	case wire.Reply:
		return tell.Reply(r, y)
	default:
		return tell.Rumor(r, x.(wire.Rumor))
	}
}

// textByRules writes a good note's text piece by piece, with nothing of the program but the note.
func textByRules(signs []rune, x wire.Note) string {
	text := ""
	switch y := x.(type) {
	case wire.Query:
		text = "query " + string(signs[y.From]) + " " + strconv.Itoa(y.Round)
	case wire.Reply:
		set := ""
		for id, sign := range signs {
			if y.Heard[id/32]>>(id%32)&1 == 1 {
				set += string(sign)
			}
		}
		if set == "" {
			set = "-"
		}
		text = "reply " + string(signs[y.From]) + " " + strconv.Itoa(y.Round) + " " + set
	case wire.Rumor:
		text = "rumor " + string(signs[y.From])
	}
	text += " ["
	for i, m := range x.Notices() {
		if i > 0 {
			text += " "
		}
		text += string(signs[m.Of]) + map[int]string{api.Mistake: "!", api.Suspicion: "?"}[m.Kind] + strconv.Itoa(m.Tag)
	}
	return text + "]"
}

// alike holds notes against each other; nil and empty news are one.
func alike(a, b wire.Note) bool {
	if a == nil || b == nil {
		return a == nil && b == nil
	}
	return reflect.TypeOf(a) == reflect.TypeOf(b) && reflect.DeepEqual(bare(a), bare(b)) && slices.Equal(a.Notices(), b.Notices())
}

// bare is a note without its news.
func bare(x wire.Note) wire.Note {
	switch y := x.(type) {
	case wire.Query:
		y.News = nil
		return y
	case wire.Reply:
		y.News = nil
		return y
	case wire.Rumor:
		y.News = nil
		return y
	}
	return nil
}

func TestP801TextsOfTheChaptersExamples(t *testing.T) {
	r := must(t, "αβγ")
	for _, c := range []struct {
		x    wire.Note
		want string
	}{
		{wire.Query{From: 0, Round: 5, News: news(suspicion(1, 3), mistake(2, 2))}, "query α 5 [β?3 γ!2]"},
		{wire.Reply{From: 2, Round: 1, Heard: setOf(0, 2)}, "reply γ 1 αγ []"},
		{wire.Rumor{From: 1}, "rumor β []"},
		{wire.Reply{From: 0, Round: 1}, "reply α 1 - []"},
		{wire.Rumor{From: 1, News: news(mistake(0, 0))}, "rumor β [α!0]"},
		{wire.Query{From: 2, Round: api.MaxRound}, "query γ 1099511627775 []"},
	} {
		if got, e := told(r, c.x); got != c.want || e != api.OK {
			t.Errorf("%#v: %q, error %d, not %q", c.x, got, e, c.want)
		}
	}
}

func TestP801TextsOfAllSizes(t *testing.T) {
	for n := 1; n <= api.MaxNodes; n++ {
		signs := signsOf(n)
		r := must(t, string(signs))
		for _, x := range samples(n) {
			want := textByRules(signs, x)
			if got, e := told(r, x); got != want || e != api.OK {
				t.Fatalf("of %d nodes, %#v: %q, error %d, not %q", n, x, got, e, want)
			}
		}
	}
}

// untold holds that a note is refused with an error, and nothing beside it.
func untold(t *testing.T, r roster.Roster, x wire.Note, want api.Errno) {
	t.Helper()
	if got, e := told(r, x); got != "" || e != want {
		t.Errorf("of %d nodes, %#v: %q, error %d, not %d", r.Size(), x, got, e, want)
	}
}

// ofEachKind are notes of all kinds with these fields, as far as they have them.
func ofEachKind(from, round int, heard api.Set, l []api.Notice) []wire.Note {
	return []wire.Note{
		wire.Query{From: from, Round: round, News: l},
		wire.Reply{From: from, Round: round, Heard: heard, News: l},
		wire.Rumor{From: from, News: l},
	}
}

func TestP801ARosterWithoutANodeIsRefused(t *testing.T) {
	for _, from := range []int{0, -1, math.MinInt, math.MaxInt} {
		for _, x := range ofEachKind(from, from, setOf(127), news(mistake(5, -1))) {
			untold(t, roster.Roster{}, x, api.ErrArg)
		}
	}
	for _, x := range ofEachKind(0, 1, api.Set{}, nil) {
		untold(t, roster.Roster{}, x, api.ErrArg)
	}
}

func TestP801SendersAreRefused(t *testing.T) {
	r := must(t, "αβγ")
	for _, from := range []int{3, 4, 99, 100, 1 << 32, math.MaxInt, -1, -3, math.MinInt} {
		// All other faults are behind it.
		for _, x := range ofEachKind(from, 0, setOf(3), news(mistake(3, 0))) {
			untold(t, r, x, api.ErrFrom)
		}
		for _, x := range ofEachKind(from, 5, setOf(2), nil) {
			untold(t, r, x, api.ErrFrom)
		}
	}
}

func TestP801RoundsAreRefused(t *testing.T) {
	r := must(t, "αβγ")
	for _, round := range []int{0, -1, api.MaxRound + 1, math.MaxInt, math.MinInt} {
		untold(t, r, wire.Query{Round: round}, api.ErrRound)
		untold(t, r, wire.Query{Round: round, News: news(mistake(3, 0))}, api.ErrRound)
		untold(t, r, wire.Reply{Round: round}, api.ErrRound)
		untold(t, r, wire.Reply{Round: round, Heard: setOf(3), News: news(mistake(3, 0))}, api.ErrRound)
	}
}

func TestP801SetsAreRefused(t *testing.T) {
	for _, n := range []int{1, 3, 31, 32, 33, 99, 100} {
		r := must(t, string(signsOf(n)))
		for id := range 128 {
			x := wire.Reply{Round: 1, Heard: setOf(0, id)}
			if id < n {
				if text, e := tell.Reply(r, x); e != api.OK || text != textByRules(signsOf(n), x) {
					t.Errorf("of %d nodes, %d heard: %q, error %d", n, id, text, e)
				}
				continue
			}
			untold(t, r, x, api.ErrHeard)
			untold(t, r, wire.Reply{Round: 1, Heard: setOf(id), News: news(mistake(n, 0))}, api.ErrHeard)
		}
	}
}

func TestP801NewsAreRefused(t *testing.T) {
	r := must(t, "αβγ")
	for _, l := range [][]api.Notice{
		news(mistake(1, 2), mistake(0, 1)),
		news(mistake(1, 2), suspicion(1, 2)),
		news(mistake(3, 0)),
		news(mistake(-1, 0)),
		news(mistake(0, -1)),
		news(suspicion(0, api.MaxTag+1)),
		news(mistake(0, math.MaxInt)),
		news(mistake(0, math.MinInt)),
		news(api.Notice{Of: 0, Tag: 0, Kind: 0}),
		news(api.Notice{Of: 0, Tag: 0, Kind: 3}),
		news(mistake(0, 0), mistake(1, 0), mistake(2, 0), api.Notice{}),
	} {
		for _, x := range ofEachKind(0, 1, setOf(1), l) {
			untold(t, r, x, api.ErrNews)
		}
	}
}

func TestP801ErrorsAreThoseOfBytes(t *testing.T) {
	for _, n := range []int{1, 2, 3, 100} {
		r := must(t, string(signsOf(n)))
		for _, from := range []int{-1, 0, n - 1, n} {
			for _, round := range []int{0, 1, api.MaxRound, api.MaxRound + 1} {
				for _, heard := range []api.Set{{}, fullSet(n), setOf(n), setOf(127)} {
					for _, l := range [][]api.Notice{nil, fullNews(n), fullNews(n + 1), news(api.Notice{})} {
						for _, x := range ofEachKind(from, round, heard, l) {
							_, want := x.Bytes(n)
							text, e := told(r, x)
							if e != want || (e == api.OK) != (text != "") {
								t.Fatalf("of %d nodes, %#v: %q, error %d, not %d", n, x, text, e, want)
							}
						}
					}
				}
			}
		}
	}
}

func TestP801NewsAreNotChanged(t *testing.T) {
	r := must(t, "αβγ")
	room := append(make([]api.Notice, 0, 8), suspicion(1, 3), mistake(2, 2))
	want := append(slices.Clone(room), make([]api.Notice, 6)...)
	for _, x := range ofEachKind(0, 1, setOf(1), room) {
		told(r, x)
	}
	if got := room[:8]; !slices.Equal(got, want) {
		t.Errorf("the news are %v, not %v", got, want)
	}
}

func TestP803ThereAndBack(t *testing.T) {
	for n := 1; n <= api.MaxNodes; n++ {
		r := must(t, string(signsOf(n)))
		for _, x := range samples(n) {
			text, e := told(r, x)
			if e != api.OK {
				t.Fatalf("of %d nodes, %#v: error %d", n, x, e)
			}
			got, e, col := tell.Read(r, text)
			if !alike(got, x) || e != api.OK || col != 0 {
				t.Fatalf("of %d nodes, Read(%q): %#v, error %d, column %d, not %#v", n, text, got, e, col, x)
			}
		}
	}
}

func TestP803ThereAndBackThroughBytes(t *testing.T) {
	const n = 40
	r := must(t, string(signsOf(n)))
	for _, x := range samples(n) {
		b, e := x.Bytes(n)
		if e != api.OK {
			t.Fatalf("%#v: error %d", x, e)
		}
		y, e := wire.Decode(b, n)
		if e != api.OK {
			t.Fatalf("Decode of %#v: error %d", x, e)
		}
		text, _ := told(r, y)
		z, _, _ := tell.Read(r, text)
		if !alike(x, z) {
			t.Errorf("%#v is read as %#v", x, z)
		}
	}
}

// oneText holds that the note of a text, if it has one, is told as one text, which is read as that note.
func oneText(t *testing.T, r roster.Roster, text string) {
	t.Helper()
	x, e, col := tell.Read(r, text)
	if e != api.OK {
		if x != nil || col < 0 || (col == 0) != (e == api.ErrLong || e == api.ErrArg) {
			t.Fatalf("Read(%q): %#v, error %d, column %d", text, x, e, col)
		}
		return
	}
	one, e := told(r, x)
	if e != api.OK || col != 0 {
		t.Fatalf("Read(%q): %#v, column %d, which is refused: %d", text, x, col, e)
	}
	again, e, _ := tell.Read(r, one)
	if e != api.OK || !alike(again, x) {
		t.Fatalf("Read(%q): %#v, error %d, not %#v", one, again, e, x)
	}
	if two, _ := told(r, again); two != one {
		t.Fatalf("%q is told as %q", one, two)
	}
}

func TestP803WhatIsReadHasOneText(t *testing.T) {
	r := must(t, "αβγ")
	for _, c := range []struct {
		texts []string
		want  string
	}{
		{[]string{
			"query α 5 [β?3 γ!2]",
			"query α 5 [ β ? 3 γ ! 2 ] # x",
			"\tquery\rα  5[β? 3\tγ !2]",
			"# x\n\n \n query α 5[β?3 γ!2]\n\n# y",
		}, "query α 5 [β?3 γ!2]"},
		{[]string{"reply γ 1 γα[]", "reply γ 1 αγ []", "reply γ 1 αγ[ ]\n"}, "reply γ 1 αγ []"},
		{[]string{"reply γ 1-[]", "reply γ 1 - []"}, "reply γ 1 - []"},
		{[]string{"rumor β[]", "rumor β [ ]#"}, "rumor β []"},
	} {
		for _, text := range c.texts {
			x, e, col := tell.Read(r, text)
			if e != api.OK || col != 0 {
				t.Errorf("Read(%q): error %d, column %d", text, e, col)
				continue
			}
			if got, _ := told(r, x); got != c.want {
				t.Errorf("%q is told as %q, not %q", text, got, c.want)
			}
			oneText(t, r, text)
		}
	}
}

func FuzzP803WhatIsReadHasOneText(f *testing.F) {
	for _, text := range []string{
		"query α 5 [β?3 γ!2]", "reply γ 1 αγ []", "rumor β []", "query α 5 [ β ? 3 ] # x",
		"", "ask α", "query αβ 5 []", "rumor α [β!1 α!1]", "rumor α []\nx", "\xFF", "rumor α [β! \"",
	} {
		f.Add(text)
	}
	r := must(f, "αβγaq")
	f.Fuzz(func(t *testing.T, text string) { oneText(t, r, text) })
}
