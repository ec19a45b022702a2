package roster_test

import (
	"math"
	"slices"
	"strings"
	"sync"
	"testing"

	"earshot/api"
	"earshot/glyph"
	"earshot/idset"
	"earshot/roster"
)

// many is a text of so many signs, none twice, with falling runes of one, two, three and four bytes by turns.
func many(count int) string {
	var out strings.Builder
	for i := range count {
		switch i % 4 {
		case 0:
			out.WriteRune('z' - rune(i/4))
		case 1:
			out.WriteRune('ϋ' - rune(i/4))
		case 2:
			out.WriteRune('龜' - rune(i/4))
		default:
			out.WriteRune(0x1F9FF - rune(i/4))
		}
	}
	return out.String()
}

// must reads a text that is known to be a roster's.
func must(t *testing.T, text string) roster.Roster {
	t.Helper()
	r, at, e := roster.Read(text)
	if at != 0 || e != api.OK {
		t.Fatalf("Read(%q): %d, error %d", text, at, e)
	}
	return r
}

// set makes a set of ids that are known to be some.
func set(t *testing.T, ids ...int) api.Set {
	t.Helper()
	s, e := idset.Of(ids...)
	if e != api.OK {
		t.Fatalf("Of(%v): error %d", ids, e)
	}
	return s
}

// holds tells whether a roster is that of a text, by all that it answers of it.
func holds(t *testing.T, r roster.Roster, text string) {
	t.Helper()
	signs := []rune(text)
	if r.Size() != len(signs) || r.Text() != text {
		t.Errorf("roster of %q: size %d, text %q", text, r.Size(), r.Text())
	}
	for id, sign := range signs {
		if got, e := r.Sign(id); got != sign || e != api.OK {
			t.Errorf("roster of %q: Sign(%d): %q, %d", text, id, got, e)
		}
		if got, e := r.Id(sign); got != id || e != api.OK {
			t.Errorf("roster of %q: Id(%q): %d, %d", text, sign, got, e)
		}
	}
}

// refused holds what Read answers of a text against an error and its place.
func refused(t *testing.T, text string, place int, errno api.Errno) {
	t.Helper()
	r, at, e := roster.Read(text)
	if at != place || e != errno {
		t.Errorf("Read of %d bytes, %.40q: %d, error %d, not %d, error %d", len(text), text, at, e, place, errno)
	}
	if r.Size() != 0 || r.Text() != "" {
		t.Errorf("Read of %.40q: a roster of %d beside an error", text, r.Size())
	}
}

func TestP401ReadsSigns(t *testing.T) {
	for _, text := range []string{
		"a", "αβγ🦉", "aA", "zyx", "кКkK", "AАΑ", "דבא", "अआइ", "あアー", "한국", "龜龟亀", "🌀🫿",
		"AZazÀÖØöøÿ\u1fff\u3041\ud7a3\U0001f300\U0001faff", many(99), many(100),
	} {
		holds(t, must(t, text), text)
	}
}

func TestP401Refuses(t *testing.T) {
	for _, c := range []struct {
		text  string
		place int
		errno api.Errno
	}{
		{"", 0, api.ErrNone},
		{"aba", 2, api.ErrTwice},
		{"a1", 1, api.ErrSign},
		{"é\xFF", 1, api.ErrSign},
		{"aa", 1, api.ErrTwice},
		{"αβγ🦉γ", 4, api.ErrTwice},
		{"αβγ🦉1", 4, api.ErrSign},
		{"🦉🦉1", 1, api.ErrTwice},
		{"🦉1🦉", 1, api.ErrSign},
		{"1", 0, api.ErrSign},
		{"11", 0, api.ErrSign},
		{"a11", 1, api.ErrSign},
		{"-", 0, api.ErrSign},
		{"a-", 1, api.ErrSign},
		{"_", 0, api.ErrSign},
		{" a", 0, api.ErrSign},
		{"a ", 1, api.ErrSign},
		{"a\n", 1, api.ErrSign},
		{"a\x00b", 1, api.ErrSign},
		{"e\u0301", 1, api.ErrSign},
		{"é×", 1, api.ErrSign},
		{"é\u200b", 1, api.ErrSign},
		{"\xFF", 0, api.ErrSign},
		{"\uFFFD", 0, api.ErrSign},
		{"αβ\xCE", 2, api.ErrSign},
		{"α\xCEβ", 1, api.ErrSign},
		{"🦉\xF0\x9F\xA6a", 1, api.ErrSign},
		{"a\xED\xA0\x80", 1, api.ErrSign},
	} {
		refused(t, c.text, c.place, c.errno)
	}
}

func TestP401TooLong(t *testing.T) {
	refused(t, strings.Repeat("a", api.MaxText+1), 0, api.ErrLong)
	refused(t, strings.Repeat("1", api.MaxText+1), 0, api.ErrLong)
	refused(t, strings.Repeat("\xFF", api.MaxText+1), 0, api.ErrLong)
	refused(t, strings.Repeat("é", api.MaxText/2)+"a", 0, api.ErrLong)
	// Of just MaxText bytes the characters decide.
	refused(t, strings.Repeat("a", api.MaxText), 1, api.ErrTwice)
	refused(t, strings.Repeat("é", api.MaxText/2), 1, api.ErrTwice)
	refused(t, strings.Repeat("1", api.MaxText), 0, api.ErrSign)
}

// The character behind MaxNodes others is looked at as all are, and is too many only if nothing else offends.
func TestP401TooMany(t *testing.T) {
	full := many(api.MaxNodes)
	refused(t, many(api.MaxNodes+1), 100, api.ErrLong)
	refused(t, many(api.MaxNodes+4), 100, api.ErrLong)
	refused(t, full+"Ж1", 100, api.ErrLong)
	refused(t, full+"ЖЖ", 100, api.ErrLong)
	refused(t, full+"1", 100, api.ErrSign)
	refused(t, full+"\xFF", 100, api.ErrSign)
	for _, sign := range full {
		refused(t, full+string(sign), 100, api.ErrTwice)
	}
	refused(t, many(99)+"1"+"Ж", 99, api.ErrSign)
	refused(t, many(99)+"zЖ", 99, api.ErrTwice)
}

func TestP401LettersAlone(t *testing.T) {
	for c := rune(0); c <= 0x10FFFF; c++ {
		text := string(c)
		r, at, e := roster.Read(text)
		if c >= 0xD800 && c <= 0xDFFF || glyph.Class(c) != api.ClassLetter {
			if r.Size() != 0 || at != 0 || e != api.ErrSign {
				t.Errorf("Read of U+%X: size %d, %d, %d", c, r.Size(), at, e)
			}
		} else if r.Size() != 1 || r.Text() != text || at != 0 || e != api.OK {
			t.Errorf("Read of U+%X: size %d, %d, %d", c, r.Size(), at, e)
		}
	}
}

func TestP402SizeTextSignId(t *testing.T) {
	r := must(t, "αβγ🦉")
	if r.Size() != 4 || r.Text() != "αβγ🦉" {
		t.Errorf("size %d, text %q", r.Size(), r.Text())
	}
	if sign, e := r.Sign(3); sign != '🦉' || e != api.OK {
		t.Errorf("Sign(3): %q, %d", sign, e)
	}
	if id, e := r.Id('γ'); id != 2 || e != api.OK {
		t.Errorf("Id('γ'): %d, %d", id, e)
	}
	if id, e := r.Id('α'); id != 0 || e != api.OK {
		t.Errorf("Id('α'): %d, %d", id, e)
	}
}

func TestP402NoSuchNode(t *testing.T) {
	for _, text := range []string{"", "a", "αβγ🦉", many(100)} {
		r, _, _ := roster.Read(text)
		size := len([]rune(text))
		for _, id := range []int{math.MinInt, -1 << 32, -101, -1, size, size + 1, 101, 128, 1 << 32, math.MaxInt} {
			if sign, e := r.Sign(id); sign != 0 || e != api.ErrId {
				t.Errorf("%q: Sign(%d): %q, %d", text, id, sign, e)
			}
		}
		for _, sign := range []rune{math.MinInt32, -1, 0, '-', '1', 'B', 0x80, 'É', 0xD800, 0xFFFD, 0x10FFFF, 0x110000, math.MaxInt32} {
			if id, e := r.Id(sign); id != 0 || e != api.ErrSign {
				t.Errorf("%q: Id(%d): %d, %d", text, sign, id, e)
			}
		}
	}
}

func TestP402ZeroRoster(t *testing.T) {
	var zero roster.Roster
	if zero.Size() != 0 || zero.Text() != "" {
		t.Errorf("size %d, text %q", zero.Size(), zero.Text())
	}
	if sign, e := zero.Sign(0); sign != 0 || e != api.ErrId {
		t.Errorf("Sign(0): %q, %d", sign, e)
	}
	if id, e := zero.Id('a'); id != 0 || e != api.ErrSign {
		t.Errorf("Id('a'): %d, %d", id, e)
	}
	if text, e := zero.Print(api.Set{}); text != "-" || e != api.OK {
		t.Errorf("Print of none: %q, %d", text, e)
	}
	if text, e := zero.Print(set(t, 0)); text != "" || e != api.ErrId {
		t.Errorf("Print({0}): %q, %d", text, e)
	}
	parsed(t, zero, "-", api.Set{}, 0, api.OK)
	parsed(t, zero, "", api.Set{}, 0, api.ErrNone)
	parsed(t, zero, "a", api.Set{}, 0, api.ErrSign)
}

// A roster goes on as it was, whatever is asked of it or of a copy, and whatever other rosters are read.
func TestP402Value(t *testing.T) {
	first := must(t, "αβγ🦉")
	copied := first
	other := must(t, "🦉γδ")
	copied.Parse("🦉xα")
	copied.Print(api.Set{math.MaxUint32})
	copied.Id('δ')
	copied.Sign(9)
	copied = other
	for _, text := range []string{"αβγ🦉", "αβα", "γ"} {
		roster.Read(text)
	}
	holds(t, first, "αβγ🦉")
	holds(t, other, "🦉γδ")
	holds(t, copied, "🦉γδ")
	if id, e := first.Id('δ'); id != 0 || e != api.ErrSign {
		t.Errorf("a sign has come in: %d, %d", id, e)
	}
}

// Calls at one time do not meet: nothing that they read is written.
func TestP402ManyAtOneTime(t *testing.T) {
	r := must(t, many(100))
	all, _ := idset.Full(100)
	texts := make([]string, 8)
	var group sync.WaitGroup
	for i := range texts {
		group.Go(func() {
			s, _, _ := r.Parse(r.Text())
			if s == all {
				texts[i], _ = r.Print(s)
			}
		})
	}
	group.Wait()
	for i, text := range texts {
		if text != many(100) {
			t.Errorf("the %dth: %q", i, text)
		}
	}
}

func TestP403Print(t *testing.T) {
	for _, c := range []struct {
		signs string
		s     api.Set
		text  string
		errno api.Errno
	}{
		{"αβγ🦉", set(t, 0, 3), "α🦉", api.OK},
		{"αβγ🦉", set(t), "-", api.OK},
		{"αβγ🦉", set(t, 4), "", api.ErrId},
		{"αβγ🦉", set(t, 0, 4), "", api.ErrId},
		{"αβγ🦉", set(t, 99), "", api.ErrId},
		{"αβγ🦉", set(t, 0, 1, 2, 3), "αβγ🦉", api.OK},
		{"zyx", set(t, 2, 0), "zx", api.OK}, // by ids, not by runes
		{"🦉a", set(t, 0, 1), "🦉a", api.OK},
		{"a", set(t, 0), "a", api.OK},
		{"a", set(t, 1), "", api.ErrId},
		// Bits of no id are not within any size.
		{"αβγ🦉", api.Set{0, 0, 0, 1 << 20}, "", api.ErrId},
		{"αβγ🦉", api.Set{1, 0, 0, 1 << 31}, "", api.ErrId},
		{many(100), api.Set{0, 0, 0, 16}, "", api.ErrId},
		{many(100), api.Set{1, 0, 0, 16}, "", api.ErrId},
	} {
		if text, e := must(t, c.signs).Print(c.s); text != c.text || e != c.errno {
			t.Errorf("%q: Print(%v): %q, %d, not %q, %d", c.signs, c.s, text, e, c.text, c.errno)
		}
	}
}

// Each single bit, against rosters of all sizes: it is a node's, or an error.
func TestP403EachBit(t *testing.T) {
	for size := 1; size <= api.MaxNodes; size++ {
		signs := []rune(many(size))
		r := must(t, many(size))
		for bit := range 128 {
			var s api.Set
			s[bit/32] = 1 << (bit % 32)
			want, errno := "", api.ErrId
			if bit < size {
				want, errno = string(signs[bit]), api.OK
			}
			if text, e := r.Print(s); text != want || e != errno {
				t.Errorf("size %d: Print of bit %d: %q, %d", size, bit, text, e)
			}
		}
		all, _ := idset.Full(size)
		if text, e := r.Print(all); text != many(size) || e != api.OK {
			t.Errorf("size %d: Print of all: %q, %d", size, text, e)
		}
	}
}

// parsed holds what Parse answers of a text against what is wanted.
func parsed(t *testing.T, r roster.Roster, text string, s api.Set, place int, errno api.Errno) {
	t.Helper()
	got, at, e := r.Parse(text)
	if got != s || at != place || e != errno {
		t.Errorf("Parse of %d bytes, %.40q: %v, %d, error %d, not %v, %d, error %d", len(text), text, got, at, e, s, place, errno)
	}
}

func TestP404Parse(t *testing.T) {
	r := must(t, "αβγ🦉")
	parsed(t, r, "🦉α", set(t, 0, 3), 0, api.OK)
	parsed(t, r, "α🦉", set(t, 0, 3), 0, api.OK)
	parsed(t, r, "-", api.Set{}, 0, api.OK)
	parsed(t, r, "β", set(t, 1), 0, api.OK)
	parsed(t, r, "γ🦉βα", set(t, 0, 1, 2, 3), 0, api.OK)
	for _, c := range []struct {
		text  string
		place int
		errno api.Errno
	}{
		{"", 0, api.ErrNone},
		{"αα", 1, api.ErrTwice},
		{"αx", 1, api.ErrSign},
		{"x", 0, api.ErrSign},
		{"xx", 0, api.ErrSign},
		{"αβγ🦉α", 4, api.ErrTwice},
		{"🦉γβx", 3, api.ErrSign},
		{"ααx", 1, api.ErrTwice},
		{"αxα", 1, api.ErrSign},
		{"--", 0, api.ErrSign},
		{"-α", 0, api.ErrSign},
		{"α-", 1, api.ErrSign},
		{"- ", 0, api.ErrSign},
		{" -", 0, api.ErrSign},
		{"\u2212", 0, api.ErrSign},
		{"α β", 1, api.ErrSign},
		{"α\n", 1, api.ErrSign},
		{"Α", 0, api.ErrSign},
		{"β\xFF", 1, api.ErrSign},
		{"\xFF", 0, api.ErrSign},
		{"β\uFFFD", 1, api.ErrSign},
		{"🦉\xCEα", 1, api.ErrSign},
		{"\xF0\x9F\xA6\x00", 0, api.ErrSign},
	} {
		parsed(t, r, c.text, api.Set{}, c.place, c.errno)
	}
}

func TestP404TooLong(t *testing.T) {
	r := must(t, "aβ")
	parsed(t, r, strings.Repeat("a", api.MaxText+1), api.Set{}, 0, api.ErrLong)
	parsed(t, r, strings.Repeat("-", api.MaxText+1), api.Set{}, 0, api.ErrLong)
	parsed(t, r, strings.Repeat("\xFF", api.MaxText+1), api.Set{}, 0, api.ErrLong)
	parsed(t, r, strings.Repeat("β", api.MaxText/2)+"a", api.Set{}, 0, api.ErrLong)
	// Of just MaxText bytes the characters decide.
	parsed(t, r, "β"+strings.Repeat("a", api.MaxText-2), api.Set{}, 2, api.ErrTwice)
	parsed(t, r, "aβ"+strings.Repeat("x", api.MaxText-3), api.Set{}, 2, api.ErrSign)
}

func TestP404AllOfAHundred(t *testing.T) {
	r := must(t, many(100))
	all, _ := idset.Full(100)
	parsed(t, r, many(100), all, 0, api.OK)
	parsed(t, r, glyph.Back(many(100)), all, 0, api.OK)
	for _, sign := range many(100) {
		parsed(t, r, many(100)+string(sign), api.Set{}, 100, api.ErrTwice)
	}
	parsed(t, r, many(100)+"Ж", api.Set{}, 100, api.ErrSign)
	parsed(t, r, many(100)+"-", api.Set{}, 100, api.ErrSign)
}

// samples has sets within a size: all of a small one, sparse and dense ones of a great one.
func samples(size int) []api.Set {
	var sets []api.Set
	if size <= 6 {
		for word := uint32(0); word < 1<<size; word++ {
			sets = append(sets, api.Set{word})
		}
		return sets
	}
	all, _ := idset.Full(size)
	state := uint64(size)
	next := func() uint32 {
		state = state*6364136223846793005 + 1442695040888963407
		return uint32(state >> 32)
	}
	for range 40 {
		dense := api.Set{next(), next(), next(), next()}
		sparse := dense
		for w := range sparse {
			sparse[w] &= next() & next()
		}
		sets = append(sets, idset.Meet(dense, all), idset.Meet(sparse, all))
	}
	return append(sets, api.Set{}, all)
}

func TestP405ThereAndBack(t *testing.T) {
	for _, signs := range []string{"a", "ba", "αβγ🦉", "fedcba", many(33), many(64), many(99), many(100)} {
		r := must(t, signs)
		for _, s := range samples(r.Size()) {
			text, e := r.Print(s)
			if e != api.OK {
				t.Errorf("%q: Print(%v): error %d", signs, s, e)
			}
			parsed(t, r, text, s, 0, api.OK)
			if text == "-" {
				continue
			}
			// In another order the same set is read, and printed in the one form.
			back := glyph.Back(text)
			parsed(t, r, back, s, 0, api.OK)
			turned := []rune(back)
			turned = slices.Concat(turned[len(turned)/2:], turned[:len(turned)/2])
			parsed(t, r, string(turned), s, 0, api.OK)
			if again, e := r.Print(s); again != text || e != api.OK {
				t.Errorf("%q: Print(%v): %q, then %q, %d", signs, s, text, again, e)
			}
		}
	}
}

// What Print tells of what Parse tells has the same signs as the text, rising by ids.
func TestP405Rising(t *testing.T) {
	r := must(t, "dcba")
	for _, c := range [][2]string{{"abcd", "dcba"}, {"ad", "da"}, {"b", "b"}, {"-", "-"}, {"bcd", "dcb"}, {"cad", "dca"}} {
		s, _, e := r.Parse(c[0])
		if e != api.OK {
			t.Errorf("Parse(%q): error %d", c[0], e)
		}
		if text, e := r.Print(s); text != c[1] || e != api.OK {
			t.Errorf("Parse(%q), printed: %q, %d", c[0], text, e)
		}
	}
}
