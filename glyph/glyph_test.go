package glyph_test

import (
	"math"
	"slices"
	"strings"
	"testing"
	"unicode/utf8"

	"earshot/api"
	"earshot/glyph"
)

// bytesOfTexts has of each kind of byte that UTF-8 knows some, and those that quoted texts know.
const bytesOfTexts = "a\"\\\n\x00\x7F\x80\x9F\xA0\xBD\xBF\xC0\xC3\xE0\xE2\xED\xEF\xF0\xF4\xF5\xFF"

// textsToTry has all texts of up to three of these bytes, and some that are chosen.
func textsToTry() []string {
	texts := []string{""}
	for from, size := 0, 1; size <= 3; size++ {
		to := len(texts)
		for _, t := range texts[from:to] {
			for i := range len(bytesOfTexts) {
				texts = append(texts, t+bytesOfTexts[i:i+1])
			}
		}
		from = to
	}
	return append(texts,
		"aé☃", "a\xC3b", "\xE2\x98", "\uFFFD", "\xFF\uFFFD\xFF", "\xEF\xBF\uFFFD",
		"🦉α漢字", "\xF0\x9F\xA6", "\xF0\x9F\xA6a", "\xF4\x90\x80\x80", "\xED\xA0\x80", "\xC0\x80",
		"\u200b\u202e\ufeff\u0085", "\U0010FFFF", "e\u0301",
		strings.Repeat("é\xFF", 500))
}

// charsOf decodes a text by the library alone.
func charsOf(s string) []api.Char {
	var list []api.Char
	for at := 0; at < len(s); {
		r, size := utf8.DecodeRuneInString(s[at:])
		list = append(list, api.Char{Rune: r, At: at, Size: size, Loose: r == utf8.RuneError && size == 1})
		at += size
	}
	return list
}

func TestP101Characters(t *testing.T) {
	for _, c := range []struct {
		text string
		want []api.Char
	}{
		{"", nil},
		{"aé☃", []api.Char{{Rune: 'a', At: 0, Size: 1}, {Rune: 'é', At: 1, Size: 2}, {Rune: '☃', At: 3, Size: 3}}},
		{"🦉\x00", []api.Char{{Rune: '🦉', At: 0, Size: 4}, {Rune: 0, At: 4, Size: 1}}},
		{"\xFF", []api.Char{{Rune: 0xFFFD, At: 0, Size: 1, Loose: true}}},
		{"\uFFFD", []api.Char{{Rune: 0xFFFD, At: 0, Size: 3}}},
		{"\xEF\xBF\uFFFD", []api.Char{{Rune: 0xFFFD, At: 0, Size: 1, Loose: true}, {Rune: 0xFFFD, At: 1, Size: 1, Loose: true}, {Rune: 0xFFFD, At: 2, Size: 3}}},
		{"\xED\xA0\x80", []api.Char{{Rune: 0xFFFD, At: 0, Size: 1, Loose: true}, {Rune: 0xFFFD, At: 1, Size: 1, Loose: true}, {Rune: 0xFFFD, At: 2, Size: 1, Loose: true}}},
		{"\xC0\x80", []api.Char{{Rune: 0xFFFD, At: 0, Size: 1, Loose: true}, {Rune: 0xFFFD, At: 1, Size: 1, Loose: true}}},
	} {
		got, e := glyph.Chars(c.text)
		if e != api.OK || !slices.Equal(got, c.want) {
			t.Errorf("Chars(%q): %v, %d, not %v", c.text, got, e, c.want)
		}
	}
}

func TestP102Chars(t *testing.T) {
	for _, s := range textsToTry() {
		got, e := glyph.Chars(s)
		if want := charsOf(s); e != api.OK || !slices.Equal(got, want) {
			t.Fatalf("Chars(%q): %v, %d, not %v", s, got, e, want)
		}
	}
}

func TestP102CharsOfLongTexts(t *testing.T) {
	for _, c := range []struct {
		text  string
		count int
		e     api.Errno
	}{
		{strings.Repeat("a", api.MaxText), api.MaxText, api.OK},
		{strings.Repeat("é", api.MaxText/2), api.MaxText / 2, api.OK},
		{strings.Repeat("a", api.MaxText+1), 0, api.ErrLong},
		{strings.Repeat("é", api.MaxText/2) + "a", 0, api.ErrLong},
	} {
		got, e := glyph.Chars(c.text)
		if e != c.e || len(got) != c.count {
			t.Errorf("Chars of %d bytes: %d characters, %d, not %d, %d", len(c.text), len(got), e, c.count, c.e)
		}
	}
}

func TestP102CharsAreNewMemory(t *testing.T) {
	first, _ := glyph.Chars("aé")
	first[0].Rune = 'x'
	again, _ := glyph.Chars("aé")
	if again[0].Rune != 'a' {
		t.Errorf("a list that was answered before is answered again")
	}
}

func TestP103Count(t *testing.T) {
	for _, c := range []struct {
		text string
		want int
	}{{"aé☃", 3}, {"a\xC3b", 3}, {"\xE2\x98", 2}, {"", 0}, {strings.Repeat("☃", api.MaxText), api.MaxText}} {
		if got := glyph.Count(c.text); got != c.want {
			t.Errorf("Count of %d bytes: %d, not %d", len(c.text), got, c.want)
		}
	}
	for _, s := range textsToTry() {
		if got, want := glyph.Count(s), len(charsOf(s)); got != want {
			t.Fatalf("Count(%q): %d, not %d", s, got, want)
		}
	}
}

func TestP103Nth(t *testing.T) {
	for _, s := range textsToTry() {
		want := charsOf(s)
		for i, w := range want {
			if got, e := glyph.Nth(s, i); e != api.OK || got != w {
				t.Fatalf("Nth(%q, %d): %v, %d, not %v", s, i, got, e, w)
			}
		}
		for _, i := range []int{-1, len(want), len(want) + 1, math.MinInt, math.MaxInt} {
			if got, e := glyph.Nth(s, i); e != api.ErrIndex || got != (api.Char{}) {
				t.Fatalf("Nth(%q, %d): %v, %d", s, i, got, e)
			}
		}
	}
	long := strings.Repeat("☃", api.MaxText) + "é"
	if got, e := glyph.Nth(long, api.MaxText); e != api.OK || got != (api.Char{Rune: 'é', At: 3 * api.MaxText, Size: 2}) {
		t.Errorf("Nth of a long text: %v, %d", got, e)
	}
}

func TestP103Cut(t *testing.T) {
	for _, s := range textsToTry() {
		list := charsOf(s)
		if len(list) > 4 {
			continue
		}
		for from := -1; from <= len(list)+1; from++ {
			for to := -1; to <= len(list)+1; to++ {
				want, wrong := "", api.ErrIndex
				if 0 <= from && from <= to && to <= len(list) {
					wrong = api.OK
					for _, c := range list[from:to] {
						want += s[c.At : c.At+c.Size]
					}
				}
				if got, e := glyph.Cut(s, from, to); got != want || e != wrong {
					t.Fatalf("Cut(%q, %d, %d): %q, %d, not %q, %d", s, from, to, got, e, want, wrong)
				}
			}
		}
	}
}

func TestP103CutAtEdges(t *testing.T) {
	long := strings.Repeat("☃", api.MaxText)
	for _, c := range []struct {
		text     string
		from, to int
		want     string
		e        api.Errno
	}{
		{"aé☃", 1, 3, "é☃", api.OK},
		{"a", 1, 1, "", api.OK},
		{"", 0, 0, "", api.OK},
		{"a", 1, 2, "", api.ErrIndex},
		{"a", 2, 2, "", api.ErrIndex},
		{"ab", 1, 0, "", api.ErrIndex},
		{"ab", -1, 0, "", api.ErrIndex},
		{"ab", -1, -1, "", api.ErrIndex},
		{"ab", 0, math.MaxInt, "", api.ErrIndex},
		{"ab", math.MinInt, math.MaxInt, "", api.ErrIndex},
		{"ab", math.MaxInt, math.MinInt, "", api.ErrIndex},
		{long, 1, api.MaxText, long[3:], api.OK},
	} {
		if got, e := glyph.Cut(c.text, c.from, c.to); got != c.want || e != c.e {
			t.Errorf("Cut of %d bytes, %d, %d: %d bytes, %d", len(c.text), c.from, c.to, len(got), e)
		}
	}
}

func TestP105Plain(t *testing.T) {
	for _, s := range textsToTry() {
		if got, want := glyph.Plain(s), utf8.ValidString(s); got != want {
			t.Fatalf("Plain(%q): %v", s, got)
		}
	}
}

func TestP105Mend(t *testing.T) {
	for text, want := range map[string]string{
		"a\xFFb":     "a\uFFFDb",
		"\xFF\xFF":   "\uFFFD\uFFFD",
		"\xE2\x98":   "\uFFFD\uFFFD",
		"é\uFFFD\n🦉": "é\uFFFD\n🦉",
		"":           "",
	} {
		if got := glyph.Mend(text); got != want {
			t.Errorf("Mend(%q): %q, not %q", text, got, want)
		}
	}
	for _, s := range textsToTry() {
		want := ""
		for _, c := range charsOf(s) {
			want += string(c.Rune)
		}
		if got := glyph.Mend(s); got != want {
			t.Fatalf("Mend(%q): %q, not %q", s, got, want)
		}
	}
}

func TestP105Back(t *testing.T) {
	if got := glyph.Back("aé\xFF"); got != "\xFFéa" {
		t.Errorf("Back: %q", got)
	}
	// A mark above a letter is a character of its own.
	if got := glyph.Back("e\u0301"); got != "\u0301e" {
		t.Errorf("Back of a letter and a mark: %q", got)
	}
	for _, s := range textsToTry() {
		want := ""
		for _, c := range charsOf(s) {
			want = s[c.At:c.At+c.Size] + want
		}
		if got := glyph.Back(s); got != want {
			t.Fatalf("Back(%q): %q, not %q", s, got, want)
		}
	}
}

func TestP106All(t *testing.T) {
	for _, s := range textsToTry() {
		seq, want := glyph.All(s), charsOf(s)
		for range 2 {
			i := 0
			for at, r := range seq {
				if i >= len(want) || at != want[i].At || r != want[i].Rune {
					t.Fatalf("All(%q): %d, %d as its character %d", s, at, r, i)
				}
				i++
			}
			if i != len(want) {
				t.Fatalf("All(%q): %d characters, not %d", s, i, len(want))
			}
		}
	}
}

func TestP106AllWithinItself(t *testing.T) {
	seq := glyph.All("aé☃")
	got := ""
	for _, r := range seq {
		for at, within := range seq {
			if at > 1 {
				break
			}
			got += string([]rune{r, within})
		}
	}
	if got != "aaaééaéé☃a☃é" {
		t.Errorf("All within itself: %s", got)
	}
}

func TestP106AllStops(t *testing.T) {
	for stop := 1; stop <= 3; stop++ {
		calls := 0
		glyph.All("a\xFF☃b")(func(int, rune) bool {
			calls++
			return calls < stop
		})
		if calls != stop {
			t.Errorf("All goes on to %d, where it was told to stop at %d", calls, stop)
		}
	}
}

func TestP109Consequences(t *testing.T) {
	for _, s := range textsToTry() {
		if glyph.Plain(s) && glyph.Back(glyph.Back(s)) != s {
			t.Fatalf("Back twice of %q: %q", s, glyph.Back(glyph.Back(s)))
		}
		if m := glyph.Mend(s); !glyph.Plain(m) || glyph.Count(m) != glyph.Count(s) {
			t.Fatalf("Mend(%q): %q", s, m)
		}
		count := glyph.Count(s)
		for k := 0; k <= min(count, 5); k++ {
			head, e1 := glyph.Cut(s, 0, k)
			tail, e2 := glyph.Cut(s, k, count)
			if e1 != api.OK || e2 != api.OK || head+tail != s {
				t.Fatalf("Cuts of %q at %d: %q, %q", s, k, head, tail)
			}
		}
	}
}

func TestP109ThereAndBack(t *testing.T) {
	for _, s := range textsToTry() {
		lit, e := glyph.Quote(s)
		if e != api.OK {
			t.Fatalf("Quote(%q): %d", s, e)
		}
		if says, at, e := glyph.Unquote(lit); says != s || at != 0 || e != api.OK {
			t.Fatalf("Unquote of Quote(%q): %q, %d, %d", s, says, at, e)
		}
	}
}
