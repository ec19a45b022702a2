package notice_test

import (
	"math"
	"slices"
	"strconv"
	"strings"
	"testing"

	"earshot/api"
	"earshot/notice"
	"earshot/roster"
)

func mistake(of, tag int) api.Notice { return api.Notice{Of: of, Tag: tag, Kind: api.Mistake} }

func suspicion(of, tag int) api.Notice { return api.Notice{Of: of, Tag: tag, Kind: api.Suspicion} }

// far are numbers that no tag, no kind and no count of nodes has.
func far() []int {
	return []int{math.MinInt, math.MinInt + 1, -1 << 32, -api.MaxTag, -2, -1, api.MaxTag + 1, 1 << 32, 1<<32 + 1, 1<<32 + 2, 1 << 62, math.MaxInt - 1, math.MaxInt}
}

// tags are some of each part of the range, both ends among them.
func tags() []int {
	return []int{0, 1, 2, 5, 9, 10, 99, 100, 65535, 65536, api.MaxTag - 1, api.MaxTag}
}

// must reads a text that is known to be a roster's.
func must(t *testing.T, text string) roster.Roster {
	t.Helper()
	r, at, e := roster.Read(text)
	if at != 0 || e != api.OK {
		t.Fatalf("Read(%q): %d, error %d", text, at, e)
	}
	return r
}

// hundred is a roster of MaxNodes signs, their runes falling.
func hundred(t *testing.T) roster.Roster {
	t.Helper()
	var signs []rune
	for i := range api.MaxNodes {
		signs = append(signs, '龜'-rune(i))
	}
	return must(t, string(signs))
}

func TestP501Valid(t *testing.T) {
	for _, c := range []struct {
		n    int
		x    api.Notice
		want bool
	}{
		{1, mistake(0, 0), true},
		{1, suspicion(0, 0), true},
		{1, mistake(1, 0), false},
		{3, mistake(2, 7), true},
		{3, suspicion(2, 7), true},
		{3, suspicion(3, 7), false},
		{3, suspicion(-1, 7), false},
		{100, suspicion(99, api.MaxTag), true},
		{100, mistake(99, api.MaxTag), true},
		{100, mistake(100, 0), false},
		{100, suspicion(99, api.MaxTag+1), false},
		{100, mistake(99, -1), false},
		{101, mistake(0, 0), false},
		{0, mistake(0, 0), false},
		{0, mistake(-1, 0), false},
		{-1, mistake(0, 0), false},
		{-1, mistake(-2, 0), false},
		{math.MinInt, mistake(0, 0), false},
		{math.MaxInt, mistake(0, 0), false},
		{3, api.Notice{}, false},
		{3, api.Notice{Kind: 3}, false},
		{3, api.Notice{Kind: -1}, false},
		{3, api.Notice{Tag: 5}, false},
	} {
		if got := notice.Valid(c.n, c.x); got != c.want {
			t.Errorf("Valid(%d, %v): %t", c.n, c.x, got)
		}
	}
}

func TestP501ValidOfAllSizes(t *testing.T) {
	for n := -2; n <= api.MaxNodes+2; n++ {
		for of := -2; of <= api.MaxNodes+2; of++ {
			want := n >= 1 && n <= 100 && 0 <= of && of <= n-1
			if got := notice.Valid(n, mistake(of, 0)); got != want {
				t.Errorf("Valid(%d, mistake of %d): %t", n, of, got)
			}
			if got := notice.Valid(n, suspicion(of, api.MaxTag)); got != want {
				t.Errorf("Valid(%d, suspicion of %d): %t", n, of, got)
			}
		}
	}
}

func TestP501FarNumbersAreNotValid(t *testing.T) {
	for _, v := range far() {
		for _, x := range []api.Notice{mistake(v, 1), suspicion(v, 1), mistake(1, v), suspicion(1, v), {Of: 1, Tag: 1, Kind: v}} {
			if notice.Valid(3, x) {
				t.Errorf("Valid(3, %v)", x)
			}
		}
		if notice.Valid(v, mistake(0, 0)) {
			t.Errorf("Valid(%d, fresh)", v)
		}
	}
}

func TestP501Rank(t *testing.T) {
	for _, c := range []struct {
		x    api.Notice
		want int
	}{
		{suspicion(3, 5), 11},
		{mistake(3, 5), 10},
		{mistake(3, -1), -1},
		{suspicion(3, -1), -1},
		{api.Notice{Of: 3, Tag: 1}, -1},
		{api.Notice{Of: 3, Tag: 1, Kind: 3}, -1},
		{api.Notice{Of: 3, Tag: 1, Kind: -1}, -1},
		{api.Notice{}, -1},
		{mistake(0, 0), 0},
		{suspicion(0, 0), 1},
		{mistake(0, api.MaxTag), 2 * api.MaxTag},
		{suspicion(0, api.MaxTag), 2*api.MaxTag + 1},
		{mistake(0, api.MaxTag+1), -1},
		{suspicion(0, api.MaxTag+1), -1},
	} {
		if got := notice.Rank(c.x); got != c.want {
			t.Errorf("Rank(%v): %d, not %d", c.x, got, c.want)
		}
	}
	for _, v := range far() {
		for _, x := range []api.Notice{mistake(0, v), suspicion(0, v), {Tag: 1, Kind: v}} {
			if got := notice.Rank(x); got != -1 {
				t.Errorf("Rank(%v): %d", x, got)
			}
		}
	}
}

func TestP501RankDoesNotLookAtOf(t *testing.T) {
	for _, of := range append(far(), 0, 99, 100) {
		if m, s := notice.Rank(mistake(of, 7)), notice.Rank(suspicion(of, 7)); m != 14 || s != 15 {
			t.Errorf("of %d: %d and %d", of, m, s)
		}
	}
}

func TestP502Beats(t *testing.T) {
	for _, c := range []struct {
		a, b api.Notice
		want bool
	}{
		{suspicion(3, 5), mistake(3, 5), true},
		{mistake(3, 5), suspicion(3, 5), false},
		{mistake(3, 6), suspicion(3, 5), true},
		{suspicion(3, 5), mistake(3, 6), false},
		{mistake(3, 9), mistake(4, 1), false},
		{suspicion(3, 9), mistake(4, 1), false},
		{mistake(4, 1), suspicion(3, 9), false},
		{mistake(3, 5), mistake(3, 5), false},
		{suspicion(3, 5), suspicion(3, 5), false},
		{suspicion(0, api.MaxTag), mistake(0, 0), true},
		{mistake(0, 1), mistake(0, 0), true},
		// What is no notice neither beats nor is beaten.
		{mistake(3, 5), mistake(3, -1), false},
		{mistake(3, 5), api.Notice{Of: 3}, false},
		{mistake(3, api.MaxTag+1), mistake(3, 5), false},
		{suspicion(3, math.MaxInt), mistake(3, 5), false},
		{api.Notice{Of: 3, Tag: 9, Kind: 3}, mistake(3, 5), false},
		{api.Notice{}, api.Notice{}, false},
		// Of is any number, if both have it.
		{suspicion(-7, 0), mistake(-7, 0), true},
		{suspicion(math.MaxInt, 2), suspicion(math.MaxInt, 1), true},
		{suspicion(math.MinInt, 2), suspicion(math.MaxInt, 1), false},
	} {
		if got := notice.Beats(c.a, c.b); got != c.want {
			t.Errorf("Beats(%v, %v): %t", c.a, c.b, got)
		}
	}
}

// maxed holds what Max answers against what is wanted.
func maxed(t *testing.T, a, b, want api.Notice, errno api.Errno) {
	t.Helper()
	if got, e := notice.Max(a, b); got != want || e != errno {
		t.Errorf("Max(%v, %v): %v, %d, not %v, %d", a, b, got, e, want, errno)
	}
}

func TestP502Max(t *testing.T) {
	none := api.Notice{}
	for _, c := range []struct {
		a, b, want api.Notice
		errno      api.Errno
	}{
		{mistake(1, 2), suspicion(1, 2), suspicion(1, 2), api.OK},
		{suspicion(1, 2), mistake(1, 3), mistake(1, 3), api.OK},
		{mistake(1, 2), mistake(1, 2), mistake(1, 2), api.OK},
		{suspicion(-5, 2), suspicion(-5, api.MaxTag), suspicion(-5, api.MaxTag), api.OK},
		{mistake(math.MaxInt, 0), suspicion(math.MaxInt, 0), suspicion(math.MaxInt, 0), api.OK},
		{mistake(1, 2), mistake(2, 2), none, api.ErrNotice},
		{mistake(1, 2), suspicion(2, 9), none, api.ErrNotice},
		{mistake(1, 2), mistake(1, -1), none, api.ErrNotice},
		{mistake(1, 2), mistake(1, api.MaxTag+1), none, api.ErrNotice},
		{mistake(1, 2), api.Notice{Of: 1, Tag: 1}, none, api.ErrNotice},
		{suspicion(1, 2), api.Notice{Of: 1, Tag: 1, Kind: 3}, none, api.ErrNotice},
		{none, none, none, api.ErrNotice},
		{mistake(1, -1), mistake(1, -1), none, api.ErrNotice},
	} {
		maxed(t, c.a, c.b, c.want, c.errno)
		maxed(t, c.b, c.a, c.want, c.errno)
	}
}

func TestP503Fresh(t *testing.T) {
	for _, of := range append(far(), 0, 1, 3, 99, 100) {
		if got := notice.Fresh(of); got != mistake(of, 0) {
			t.Errorf("Fresh(%d): %v", of, got)
		}
	}
}

// replied holds what Reply answers against what is wanted.
func replied(t *testing.T, x, want api.Notice, errno api.Errno) {
	t.Helper()
	if got, e := notice.Reply(x); got != want || e != errno {
		t.Errorf("Reply(%v): %v, %d, not %v, %d", x, got, e, want, errno)
	}
}

func TestP503Reply(t *testing.T) {
	replied(t, suspicion(3, 5), mistake(3, 6), api.OK)
	replied(t, suspicion(3, 0), mistake(3, 1), api.OK)
	replied(t, suspicion(3, api.MaxTag-1), mistake(3, api.MaxTag), api.OK)
	for _, of := range far() {
		replied(t, suspicion(of, 5), mistake(of, 6), api.OK)
		replied(t, suspicion(of, api.MaxTag), api.Notice{}, api.ErrEnd)
		replied(t, mistake(of, 5), api.Notice{}, api.ErrNotice)
	}
}

func TestP503ReplyRefuses(t *testing.T) {
	none := api.Notice{}
	replied(t, mistake(3, 5), none, api.ErrNotice)
	replied(t, mistake(3, 0), none, api.ErrNotice)
	replied(t, mistake(3, api.MaxTag), none, api.ErrNotice)
	replied(t, suspicion(3, api.MaxTag), none, api.ErrEnd)
	replied(t, none, none, api.ErrNotice)
	replied(t, api.Notice{Of: 3, Tag: 5, Kind: 3}, none, api.ErrNotice)
	replied(t, api.Notice{Of: 3, Tag: api.MaxTag}, none, api.ErrNotice)
	for _, v := range far() {
		replied(t, suspicion(3, v), none, api.ErrNotice)
		replied(t, mistake(3, v), none, api.ErrNotice)
		replied(t, api.Notice{Of: 3, Tag: 5, Kind: v}, none, api.ErrNotice)
	}
}

func TestP504Rising(t *testing.T) {
	for _, c := range []struct {
		n    int
		l    []api.Notice
		want bool
	}{
		{3, nil, true},
		{3, []api.Notice{}, true},
		{0, nil, true}, // of no notice none is amiss
		{-1, nil, true},
		{101, []api.Notice{}, true},
		{math.MinInt, nil, true},
		{3, []api.Notice{mistake(0, 1)}, true},
		{3, []api.Notice{suspicion(2, 0)}, true},
		{3, []api.Notice{mistake(0, 1), suspicion(2, 0)}, true},
		{3, []api.Notice{suspicion(0, 9), mistake(1, 3), suspicion(2, 0)}, true},
		{3, []api.Notice{mistake(1, 1), suspicion(1, 1)}, false},
		{3, []api.Notice{mistake(1, 1), mistake(1, 1)}, false},
		{3, []api.Notice{suspicion(1, 1), mistake(0, 5)}, false},
		{3, []api.Notice{mistake(0, 1), mistake(2, 1), mistake(1, 1)}, false},
		{2, []api.Notice{mistake(2, 1)}, false},
		{2, []api.Notice{mistake(0, 1), mistake(2, 1)}, false},
		{3, []api.Notice{mistake(-1, 1)}, false},
		{3, []api.Notice{mistake(-2, 1), mistake(0, 1)}, false},
		{3, []api.Notice{mistake(0, -1)}, false},
		{3, []api.Notice{mistake(0, 0), suspicion(1, api.MaxTag+1)}, false},
		{3, []api.Notice{{Of: 0}, suspicion(1, 0)}, false},
		{3, []api.Notice{mistake(0, 0), {Of: 1, Kind: 3}, suspicion(2, 0)}, false},
		{0, []api.Notice{mistake(0, 0)}, false},
		{101, []api.Notice{mistake(0, 0)}, false},
		{math.MaxInt, []api.Notice{mistake(0, 0)}, false},
		{100, []api.Notice{mistake(0, 0), suspicion(99, api.MaxTag)}, true},
		{100, []api.Notice{mistake(0, 0), suspicion(100, api.MaxTag)}, false},
	} {
		if got := notice.Rising(c.n, c.l); got != c.want {
			t.Errorf("Rising(%d, %v): %t", c.n, c.l, got)
		}
	}
}

// Of a whole list each place counts, the first and the last one among them.
func TestP504EachPlace(t *testing.T) {
	var whole []api.Notice
	for of := range api.MaxNodes {
		whole = append(whole, suspicion(of, of))
	}
	if !notice.Rising(api.MaxNodes, whole) || notice.Rising(api.MaxNodes-1, whole) {
		t.Errorf("of %d nodes: %t, of one less: %t", api.MaxNodes, notice.Rising(api.MaxNodes, whole), notice.Rising(api.MaxNodes-1, whole))
	}
	for at := range whole {
		for _, x := range []api.Notice{mistake(at, -1), {Of: at}, mistake(-1, 0), mistake(api.MaxNodes, 0)} {
			l := slices.Clone(whole)
			l[at] = x
			if notice.Rising(api.MaxNodes, l) {
				t.Errorf("with %v at %d", x, at)
			}
		}
		if at > 0 {
			l := slices.Clone(whole)
			l[at-1], l[at] = l[at], l[at-1]
			if notice.Rising(api.MaxNodes, l) {
				t.Errorf("with %d and %d exchanged", at-1, at)
			}
		}
		doubled := slices.Insert(slices.Clone(whole), at, whole[at])
		if notice.Rising(api.MaxNodes, doubled) {
			t.Errorf("with %d twice", at)
		}
		if !notice.Rising(api.MaxNodes, slices.Delete(slices.Clone(whole), at, at+1)) {
			t.Errorf("without %d", at)
		}
	}
}

func TestP504LeavesTheListAsItWas(t *testing.T) {
	l := append(make([]api.Notice, 0, 4), mistake(2, 1), mistake(0, 1))
	notice.Rising(3, l)
	if want := []api.Notice{mistake(2, 1), mistake(0, 1), {}, {}}; !slices.Equal(l[:4], want) {
		t.Errorf("the list has become %v", l[:4])
	}
}

// printed holds what Print answers against what is wanted.
func printed(t *testing.T, r roster.Roster, x api.Notice, text string, errno api.Errno) {
	t.Helper()
	if got, e := notice.Print(r, x); got != text || e != errno {
		t.Errorf("%q: Print(%v): %q, %d, not %q, %d", r.Text(), x, got, e, text, errno)
	}
}

func TestP505Print(t *testing.T) {
	r := must(t, "αβ")
	printed(t, r, suspicion(1, 12), "β?12", api.OK)
	printed(t, r, mistake(0, 0), "α!0", api.OK)
	printed(t, r, suspicion(0, 0), "α?0", api.OK)
	printed(t, r, mistake(1, api.MaxTag), "β!1048576", api.OK)
	printed(t, must(t, "🦉a한"), mistake(0, 10), "🦉!10", api.OK)
	printed(t, must(t, "🦉a한"), suspicion(2, 100), "한?100", api.OK)
	for _, x := range []api.Notice{
		mistake(2, 0), mistake(-1, 0), suspicion(99, 0), mistake(0, -1), suspicion(0, api.MaxTag+1),
		{}, {Kind: 3}, {Tag: 1}, {Kind: '?'}, {Kind: '!'},
	} {
		printed(t, r, x, "", api.ErrNotice)
	}
	for _, v := range far() {
		printed(t, r, mistake(v, 0), "", api.ErrNotice)
		printed(t, r, suspicion(0, v), "", api.ErrNotice)
		printed(t, r, api.Notice{Kind: v}, "", api.ErrNotice)
	}
}

// read holds what Read answers against what is wanted.
func read(t *testing.T, r roster.Roster, text string, want api.Notice, errno api.Errno) {
	t.Helper()
	if got, e := notice.Read(r, text); got != want || e != errno {
		t.Errorf("%q: Read of %d bytes, %.40q: %v, %d, not %v, %d", r.Text(), len(text), text, got, e, want, errno)
	}
}

func TestP505Read(t *testing.T) {
	r := must(t, "αβ")
	read(t, r, "α!0", mistake(0, 0), api.OK)
	read(t, r, "β?12", suspicion(1, 12), api.OK)
	read(t, r, "β?1048576", suspicion(1, api.MaxTag), api.OK)
	read(t, r, "α!1048576", mistake(0, api.MaxTag), api.OK)
	read(t, must(t, "🦉a한"), "🦉?7", suspicion(0, 7), api.OK)
	read(t, must(t, "🦉a한"), "한!7", mistake(2, 7), api.OK)
}

func TestP505ReadRefuses(t *testing.T) {
	r := must(t, "αβa")
	for _, text := range []string{
		"", "α", "!", "?", "0", "α0", "!0", "α!", "α?", "α!?", "α!!0", "α??0", "α!?0", "αα!0", "αβ!0",
		"γ!0", "Α!0", "A!0", "α!00", "α!01", "α?012", "α!-1", "α!-0", "α!+1", "α! 1", "α !1", " α!1", "α!1 ", "α!1\n", "α!1\x00", "\uFEFFα!1",
		"α!1.0", "α!1_0", "α!1e3", "α!0x1", "α!1a", "α!a", "α!α", "α!1!1", "α!1,", "α-1", "α:1", "α\u203d1", "α\u01c31", "α\uff1f1", "α\uff011",
		"α!\u0661", "α!\uff11", "α!1\u0967", "α!\u00b2",
		"α!1048577", "α?1048577", "α!9999999", "α!10485760", "α!1099511627776", "α!1099511627777",
		"α!9223372036854775807", "α!9223372036854775808", "α!18446744073709551616", "α!18446744073709551617", "α!4294967296", "α!4294967297",
		"-!0", "0!0", "_!0", "1!0", "\x00!0", "\xFF!0", "\uFFFD!0", "\xCE!0", "\xCEα!0", "α\xFF!0", "α\xFF0", "α!\xFF", "α!0\xFF", "α\uFFFD0", "\xB1!0", "a\u0301!0",
	} {
		read(t, r, text, api.Notice{}, api.ErrWord)
	}
}

func TestP505ReadTooLong(t *testing.T) {
	r := must(t, "aβ")
	for _, text := range []string{
		"a!" + strings.Repeat("1", api.MaxText-1), "a!" + strings.Repeat("0", api.MaxText-1),
		strings.Repeat("a", api.MaxText+1), strings.Repeat("\xFF", api.MaxText+1), strings.Repeat("β", api.MaxText/2) + "!",
	} {
		read(t, r, text, api.Notice{}, api.ErrLong)
	}
	// Of just MaxText bytes the characters decide.
	for _, text := range []string{
		"a!" + strings.Repeat("1", api.MaxText-2), "a!" + strings.Repeat("0", api.MaxText-2), "a?" + strings.Repeat("9", api.MaxText-2),
		strings.Repeat("a", api.MaxText), strings.Repeat("\xFF", api.MaxText), strings.Repeat("β", api.MaxText/2),
	} {
		read(t, r, text, api.Notice{}, api.ErrWord)
	}
}

func TestP505RosterWithoutNodes(t *testing.T) {
	var zero roster.Roster
	printed(t, zero, mistake(0, 0), "", api.ErrNotice)
	printed(t, zero, api.Notice{}, "", api.ErrNotice)
	for _, text := range []string{"", "-", "a!0", "α?1", "!0", "\x00!0", "\uFFFD!0"} {
		read(t, zero, text, api.Notice{}, api.ErrWord)
	}
	read(t, zero, strings.Repeat("a", api.MaxText+1), api.Notice{}, api.ErrLong)
}

func TestP505ThereAndBack(t *testing.T) {
	for _, r := range []roster.Roster{must(t, "a"), must(t, "αβγ🦉"), hundred(t)} {
		for of := range r.Size() {
			sign, _ := r.Sign(of)
			for _, tag := range tags() {
				digits := strconv.Itoa(tag)
				printed(t, r, mistake(of, tag), string(sign)+"!"+digits, api.OK)
				printed(t, r, suspicion(of, tag), string(sign)+"?"+digits, api.OK)
				read(t, r, string(sign)+"!"+digits, mistake(of, tag), api.OK)
				read(t, r, string(sign)+"?"+digits, suspicion(of, tag), api.OK)
			}
		}
	}
}

// Of each text that is short enough to try them all: what is read is what is printed, and nothing else is read.
func TestP505ShortTexts(t *testing.T) {
	r := must(t, "éa")
	letters := []string{"é", "a", "b", "!", "?", "0", "1", "9", "-", " ", "\xC3", "\xA9", "\uFFFD"}
	texts := []string{""}
	for first := 0; len(texts) < 30000; {
		longer := texts[first:]
		first = len(texts)
		for _, text := range longer {
			for _, letter := range letters {
				texts = append(texts, text+letter)
			}
		}
	}
	some := 0
	for _, text := range texts {
		x, e := notice.Read(r, text)
		if e != api.OK {
			if x != (api.Notice{}) || e != api.ErrWord {
				t.Errorf("Read(%q): %v, %d", text, x, e)
			}
			continue
		}
		some++
		printed(t, r, x, text, api.OK)
	}
	// Two signs (the two loose bytes behind one another are the first one too), two marks, 3 numbers of one digit, 6 of two.
	if want := 2*2*(3+6) + 2*3; some != want {
		t.Errorf("%d texts are notices', not %d", some, want)
	}
}

// ladder has notices of one node by rising ranks.
func ladder(of int) []api.Notice {
	var l []api.Notice
	for _, tag := range tags() {
		l = append(l, mistake(of, tag), suspicion(of, tag))
	}
	return l
}

func TestP506RanksAreAnOrder(t *testing.T) {
	l := ladder(3)
	for i, a := range l {
		for j, b := range l {
			if got := notice.Beats(a, b); got != (i > j) {
				t.Errorf("Beats(%v, %v): %t", a, b, got)
			}
			if (notice.Rank(a) == notice.Rank(b)) != (a == b) {
				t.Errorf("ranks of %v and %v: %d and %d", a, b, notice.Rank(a), notice.Rank(b))
			}
			maxed(t, a, b, l[max(i, j)], api.OK)
		}
	}
}

func TestP506MaxOfThree(t *testing.T) {
	l := ladder(0)
	for _, a := range l {
		for _, b := range l {
			for _, c := range l {
				ab, _ := notice.Max(a, b)
				bc, _ := notice.Max(b, c)
				left, _ := notice.Max(ab, c)
				right, e := notice.Max(a, bc)
				if left != right || e != api.OK {
					t.Errorf("of %v, %v, %v: %v and %v, %d", a, b, c, left, right, e)
				}
			}
		}
	}
}

func TestP506NothingLiesBetween(t *testing.T) {
	for tag := range api.MaxTag {
		x := suspicion(5, tag)
		y, e := notice.Reply(x)
		if e != api.OK || y.Of != 5 || !notice.Beats(y, x) || notice.Rank(y) != notice.Rank(x)+1 {
			t.Fatalf("Reply(%v): %v, %d", x, y, e)
		}
	}
}
