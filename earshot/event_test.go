package earshot_test

import (
	"fmt"
	"math"
	"strings"
	"testing"

	"earshot/api"
	"earshot/earshot"
	"earshot/roster"
)

// rosterOf tells a roster of signs that are right.
func rosterOf(t testing.TB, signs string) roster.Roster {
	t.Helper()
	r, _, e := roster.Read(signs)
	if e != api.OK {
		t.Fatalf("roster.Read(%q): error %d", signs, e)
	}
	return r
}

// holdEvent holds that an event is told so.
func holdEvent(t testing.TB, r roster.Roster, e api.Event, want string) {
	t.Helper()
	if got := earshot.Event(r, e); got != want {
		t.Errorf("Event(%s, %+v): %q, not %q", r.Text(), e, start(got), start(want))
	}
}

func TestP2102EachKind(t *testing.T) {
	r := rosterOf(t, "αb🦉")
	holdEvent(t, r, api.Event{Kind: api.EventBegin, Node: 2, Life: 3, Tag: 8, Round: 33}, "🦉 begins life 3 tag 8 round 33")
	holdEvent(t, r, api.Event{Kind: api.EventAsk, Node: 1, Life: 3, Round: 40}, "b asks 40")
	holdEvent(t, r, api.Event{Kind: api.EventClose, Node: 0, Life: 3, Round: 40, Heard: api.Set{5}, Union: api.Set{7}}, "α closes 40 heard α🦉 of αb🦉")
	holdEvent(t, r, api.Event{Kind: api.EventDoubt, Node: 0, Life: 3, Round: 40, Of: 2, Tag: 5}, "α doubts 🦉 at 5")
	holdEvent(t, r, api.Event{Kind: api.EventDefend, Node: 2, Life: 3, Tag: 6, Durable: 8}, "🦉 defends 6 durable 8")
	holdEvent(t, r, api.Event{Kind: api.EventDown, Node: 1, Life: 3}, "b is down")
}

func TestP2102Noughts(t *testing.T) {
	r := rosterOf(t, "α")
	for kind, want := range map[int]string{
		api.EventBegin:  "α begins life 0 tag 0 round 0",
		api.EventAsk:    "α asks 0",
		api.EventClose:  "α closes 0 heard - of -",
		api.EventDoubt:  "α doubts α at 0",
		api.EventDefend: "α defends 0 durable 0",
		api.EventDown:   "α is down",
	} {
		holdEvent(t, r, api.Event{Kind: kind}, want)
	}
}

// full is an event that has something in each field, of a kind.
func full(kind int) api.Event {
	return api.Event{Kind: kind, Node: 1, Life: 2, Round: 3, Tag: 4, Of: 2, Durable: 5, Heard: api.Set{1}, Union: api.Set{6}}
}

// fullTexts tells by kinds how such an event is told among the nodes αβγ.
func fullTexts() map[int]string {
	return map[int]string{
		api.EventBegin:  "β begins life 2 tag 4 round 3",
		api.EventAsk:    "β asks 3",
		api.EventClose:  "β closes 3 heard α of βγ",
		api.EventDoubt:  "β doubts γ at 4",
		api.EventDefend: "β defends 4 durable 5",
		api.EventDown:   "β is down",
	}
}

// written tells of each kind which numbers are written: L of Life, R of Round, T of Tag, D of Durable; the node's sign always is.
func written() map[int]string {
	return map[int]string{api.EventBegin: "LTR", api.EventAsk: "R", api.EventClose: "R", api.EventDoubt: "T", api.EventDefend: "TD"}
}

// numbers are the numbers of an event, by their letters.
func numbers(e *api.Event) map[byte]*int {
	return map[byte]*int{'L': &e.Life, 'R': &e.Round, 'T': &e.Tag, 'D': &e.Durable}
}

func TestP2102Numbers(t *testing.T) {
	r := rosterOf(t, "αβγ")
	for kind, text := range fullTexts() {
		holdEvent(t, r, full(kind), text)
		for letter := range numbers(&api.Event{}) {
			// 7 is none of its numbers, so that it is seen where it stands.
			for _, v := range []int{0, 7, 10, 1 << 32, api.MaxRound, math.MaxInt, -1, -7, -1 << 32, math.MinInt} {
				e := full(kind)
				was := *numbers(&e)[letter]
				*numbers(&e)[letter] = v
				want := text
				switch is := strings.Contains(written()[kind], string(letter)); {
				case is && v < 0:
					want = ""
				case is:
					want = strings.Replace(text, " "+fmt.Sprint(was), " "+fmt.Sprint(v), 1)
				}
				holdEvent(t, r, e, want)
			}
		}
	}
}

// noIds are numbers that are no id among three nodes.
func noIds() []int {
	return []int{3, 4, 31, 32, 99, 100, 1 << 32, 1<<32 + 1, math.MaxInt, -1, -2, -1 << 32, math.MinInt}
}

func TestP2102Nodes(t *testing.T) {
	r := rosterOf(t, "αβγ")
	for kind, text := range fullTexts() {
		for id, sign := range []string{"α", "β", "γ"} {
			e := full(kind)
			e.Node = id
			holdEvent(t, r, e, sign+strings.TrimPrefix(text, "β"))
			e = full(kind)
			e.Of = id
			if kind == api.EventDoubt {
				holdEvent(t, r, e, "β doubts "+sign+" at 4")
			} else {
				holdEvent(t, r, e, text)
			}
		}
		for _, id := range noIds() {
			e := full(kind)
			e.Node = id
			holdEvent(t, r, e, "")
			e = full(kind)
			e.Of = id
			if kind == api.EventDoubt {
				holdEvent(t, r, e, "")
			} else {
				holdEvent(t, r, e, text)
			}
		}
		// A roster without a node has no sign.
		holdEvent(t, roster.Roster{}, full(kind), "")
		holdEvent(t, roster.Roster{}, api.Event{Kind: kind}, "")
	}
}

func TestP2102Sets(t *testing.T) {
	for _, n := range []int{1, 2, 31, 32, 33, 64, 99, api.MaxNodes} {
		signs := manySigns(n)
		r := rosterOf(t, signs)
		for id := range 128 {
			var one api.Set
			one[id/32] = 1 << (id % 32)
			e := api.Event{Kind: api.EventClose, Round: 9, Heard: one}
			heard, of := "", ""
			if id < n {
				sign := string([]rune(signs)[id])
				heard, of = "一 closes 9 heard "+sign+" of -", "一 closes 9 heard - of "+sign
			}
			holdEvent(t, r, e, heard)
			e.Heard, e.Union = api.Set{}, one
			holdEvent(t, r, e, of)
			// Of all other kinds no set is looked at.
			for kind := range fullTexts() {
				if kind != api.EventClose {
					x := api.Event{Kind: kind, Heard: one, Union: one}
					holdEvent(t, r, x, earshot.Event(r, api.Event{Kind: kind}))
				}
			}
		}
	}
	r := rosterOf(t, manySigns(api.MaxNodes))
	all := api.Set{math.MaxUint32, math.MaxUint32, math.MaxUint32, 15}
	holdEvent(t, r, api.Event{Kind: api.EventClose, Node: 99, Heard: all, Union: all}, "乣 closes 0 heard "+manySigns(100)+" of "+manySigns(100))
}

func TestP2102OtherKinds(t *testing.T) {
	r := rosterOf(t, "αβγ")
	for _, kind := range []int{0, 7, 8, 12, 255, 257, 1<<32 + 1, math.MaxInt, -1, -6, math.MinInt} {
		holdEvent(t, r, full(kind), "")
		holdEvent(t, r, api.Event{Kind: kind}, "")
	}
}

// TestP2102SignsLikeWords: a sign may be any letter, those of the words too.
func TestP2102SignsLikeWords(t *testing.T) {
	r := rosterOf(t, "asd")
	holdEvent(t, r, api.Event{Kind: api.EventAsk, Round: 1}, "a asks 1")
	holdEvent(t, r, api.Event{Kind: api.EventDoubt, Node: 2, Of: 1, Tag: 1}, "d doubts s at 1")
	holdEvent(t, r, api.Event{Kind: api.EventClose, Node: 1, Round: 1, Heard: api.Set{6}, Union: api.Set{7}}, "s closes 1 heard sd of asd")
}
