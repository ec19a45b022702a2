package script_test

import (
	"math"
	"slices"
	"strings"
	"testing"

	"earshot/api"
	"earshot/roster"
	"earshot/script"
)

// holdWritten holds that rules and steps are written so.
func holdWritten(t testing.TB, want string, r api.Rules, steps ...api.Step) {
	t.Helper()
	if text, e := script.Print(r, steps); text != want || e != api.OK {
		t.Errorf("Print(%v, ..): %q, error %d, not %q", r, begin(text), e, begin(want))
	}
}

// holdRefused holds that rules and steps are refused so, and no text stands beside the error.
func holdRefused(t testing.TB, want api.Errno, r api.Rules, steps ...api.Step) {
	t.Helper()
	if text, e := script.Print(r, steps); text != "" || e != want {
		t.Errorf("Print(%v, %d steps): %q, error %d, not %d", r, len(steps), begin(text), e, want)
	}
}

// wrongNumbers are numbers that no text has.
func wrongNumbers() []int {
	return []int{math.MinInt, -api.MaxNumber, -1 << 32, -2, -1, api.MaxNumber + 1, 1 << 41, 1 << 62, math.MaxInt}
}

func TestP2002Examples(t *testing.T) {
	holdWritten(t, "nodes \"αβ\" faults 1\npoll β\n", two(), api.Step{Kind: api.StepPoll, A: 1})
	holdRefused(t, api.ErrScript, two(), api.Step{Kind: api.StepPoll, A: 2})
	holdRefused(t, api.ErrScript, api.Rules{})
	holdRefused(t, api.ErrScript, api.Rules{Signs: "a"}, api.Step{Kind: api.StepPoll, B: 1})
}

func TestP2002EachStep(t *testing.T) {
	text, steps := head, []api.Step{}
	for _, c := range said() {
		holdWritten(t, head+c.line+"\n", two(), c.step)
		text, steps = text+c.line+"\n", append(steps, c.step)
	}
	holdWritten(t, text, two(), steps...)
	holdWritten(t, head, two())
}

func TestP2002Rules(t *testing.T) {
	holdWritten(t, "nodes \"a\" faults 0\n", api.Rules{Signs: "a"})
	holdWritten(t, "nodes \"éα가🦉\" faults 1099511627776\nfuse 🦉 1\n", api.Rules{Signs: "éα가🦉", F: api.MaxNumber}, api.Step{Kind: api.StepFuse, A: 3, B: 1})
	all := letters(api.MaxNodes)
	holdWritten(t, "nodes \""+all+"\" faults 100\n", api.Rules{Signs: all, F: 100})
	for _, f := range wrongNumbers() {
		holdRefused(t, api.ErrScript, api.Rules{Signs: "αβ", F: f})
	}
	// Whatever the roster's error is.
	for _, signs := range []string{"", "1", "α1", "α β", "αα", "α\xFF", "\xFF", "\"", "-", letters(api.MaxNodes + 1), strings.Repeat("α", api.MaxText)} {
		holdRefused(t, api.ErrScript, api.Rules{Signs: signs})
		holdRefused(t, api.ErrScript, api.Rules{Signs: signs}, api.Step{Kind: api.StepTurn})
	}
}

func TestP2002Kinds(t *testing.T) {
	for _, kind := range append(wrongNumbers(), 0, 13, 99, 1<<32+api.StepPoll) {
		holdRefused(t, api.ErrScript, two(), api.Step{Kind: kind})
		holdRefused(t, api.ErrScript, two(), api.Step{Kind: api.StepTurn}, api.Step{Kind: kind})
	}
}

// fields tells what the words of each kind say: n of a node, # of a number, - of what they don't have, in A, B, C; and, of its bytes, * or -.
func fields() map[int]string {
	return map[int]string{
		api.StepPoll: "n---", api.StepCrash: "n---", api.StepRestart: "n---", api.StepFuse: "n#--", api.StepForge: "n--*",
		api.StepDeliver: "#---", api.StepDrop: "#---", api.StepDouble: "#---", api.StepFlush: "#---", api.StepTurn: "#---",
		api.StepMove: "##--", api.StepSpoil: "###-",
	}
}

// put tells a step with a number in the field i.
func put(s api.Step, i, v int) api.Step {
	*[]*int{&s.A, &s.B, &s.C}[i] = v
	return s
}

func TestP2002Fields(t *testing.T) {
	// What is refused of each sort of field, what is not; the roster has two nodes.
	wrong := map[byte][]int{'n': append(wrongNumbers(), 2, 3, api.MaxNodes), '#': wrongNumbers(), '-': append(wrongNumbers(), 1, 2, api.MaxNumber)}
	right := map[byte][]int{'n': {0, 1}, '#': {0, 1, 2, 255, 1 << 32, api.MaxNumber}, '-': {0}}
	for kind, has := range fields() {
		for i := range 3 {
			for _, v := range wrong[has[i]] {
				holdRefused(t, api.ErrScript, two(), put(api.Step{Kind: kind}, i, v))
				holdRefused(t, api.ErrScript, two(), api.Step{Kind: api.StepTurn}, put(api.Step{Kind: kind}, i, v), api.Step{Kind: api.StepTurn})
			}
			for _, v := range right[has[i]] {
				if text, e := script.Print(two(), []api.Step{put(api.Step{Kind: kind}, i, v)}); e != api.OK || !strings.HasPrefix(text, head) {
					t.Errorf("Print of the kind %d, field %d being %d: %q, error %d", kind, i, v, text, e)
				}
			}
		}
		if has[3] == '-' {
			holdRefused(t, api.ErrScript, two(), api.Step{Kind: kind, Data: []byte{0}})
			holdRefused(t, api.ErrScript, two(), api.Step{Kind: kind, Data: make([]byte, api.MaxText+1)})
		}
		// A list without elements is zero, whatever its room.
		if _, e := script.Print(two(), []api.Step{{Kind: kind, Data: make([]byte, 0, 9)}}); e != api.OK {
			t.Errorf("Print of the kind %d with an empty list: error %d", kind, e)
		}
	}
}

// turns are so many steps, each of which is the line "turn 0".
func turns(many int) []api.Step { return slices.Repeat([]api.Step{{Kind: api.StepTurn}}, many) }

func TestP2002ManySteps(t *testing.T) {
	holdWritten(t, head+strings.Repeat("turn 0\n", api.MaxSteps), two(), turns(api.MaxSteps)...)
	holdRefused(t, api.ErrLong, two(), turns(api.MaxSteps+1)...)
	// Ahead of all others.
	holdRefused(t, api.ErrLong, api.Rules{}, turns(api.MaxSteps+1)...)
	holdRefused(t, api.ErrLong, two(), make([]api.Step, api.MaxSteps+1)...)
	holdRefused(t, api.ErrScript, api.Rules{Signs: "αβ", F: -1}, turns(api.MaxSteps)...)
	holdRefused(t, api.ErrScript, two(), append(turns(api.MaxSteps-1), api.Step{})...)
}

// forged is a step whose line has so many bytes, its end too.
func forged(size int) api.Step {
	return api.Step{Kind: api.StepForge, Data: []byte(strings.Repeat("a", size-len("forge α \"\"\n")))}
}

func TestP2002LongTexts(t *testing.T) {
	room := api.MaxText - len(head)
	holdWritten(t, head+"forge α \""+string(forged(room).Data)+"\"\n", two(), forged(room))
	holdRefused(t, api.ErrLong, two(), forged(room+1))
	holdRefused(t, api.ErrLong, two(), forged(room-6), api.Step{Kind: api.StepTurn})
	if text, e := script.Print(two(), []api.Step{forged(room - 7), {Kind: api.StepTurn}}); len(text) != api.MaxText || e != api.OK {
		t.Errorf("a text of just MaxText bytes: %d, error %d", len(text), e)
	}
	// Each of these is more than a quoted text may have, alone or as it is told.
	for _, data := range [][]byte{make([]byte, api.MaxText/4), make([]byte, api.MaxText), make([]byte, api.MaxText+1), make([]byte, 1<<22), []byte(strings.Repeat("\u0080", api.MaxText/6+1))} {
		long := api.Step{Kind: api.StepForge, Data: data}
		holdRefused(t, api.ErrLong, two(), long)
		holdRefused(t, api.ErrLong, two(), long, api.Step{Kind: api.StepTurn})
		// What no text gives comes ahead of that, wherever it stands.
		holdRefused(t, api.ErrScript, two(), long, api.Step{Kind: 99})
		holdRefused(t, api.ErrScript, two(), api.Step{Kind: api.StepPoll, A: 2}, long)
		holdRefused(t, api.ErrScript, two(), long, long, api.Step{Kind: api.StepDeliver, A: -1}, long)
		holdRefused(t, api.ErrScript, api.Rules{Signs: "αβ", F: -1}, long)
		holdRefused(t, api.ErrScript, api.Rules{Signs: "αα"}, long)
		long.A = 2
		holdRefused(t, api.ErrScript, two(), long)
		long.A, long.B = 0, 1
		holdRefused(t, api.ErrScript, two(), long)
	}
	// Also where no step is long by itself.
	far := api.Step{Kind: api.StepSpoil, A: api.MaxNumber, B: api.MaxNumber, C: api.MaxNumber}
	holdRefused(t, api.ErrLong, two(), slices.Repeat([]api.Step{far}, 2000)...)
	holdRefused(t, api.ErrScript, two(), append(slices.Repeat([]api.Step{far}, 2000), api.Step{})...)
}

func TestP2002NothingIsChanged(t *testing.T) {
	room := []byte("abcdef")
	steps := make([]api.Step, 0, 8)
	for _, c := range said() {
		steps = append(steps, c.step)
	}
	steps = append(steps, api.Step{Kind: api.StepForge, Data: room[:3]})
	ahead := slices.Clone(steps)
	spare := steps[:4]
	text, e := script.Print(two(), spare)
	whole, e2 := script.Print(two(), steps)
	if e != api.OK || e2 != api.OK || !strings.HasPrefix(whole, text) || string(room) != "abcdef" || !slices.EqualFunc(steps, ahead, alike) {
		t.Errorf("Print: %q, %q, errors %d, %d; the steps are %v", text, whole, e, e2, steps)
	}
	room[0] = 'x'
	if again, _ := script.Print(two(), ahead[:4]); again != text || !strings.HasSuffix(whole, "forge α \"abc\"\n") {
		t.Errorf("Print: %q, then %q", text, again)
	}
}

// TestP2002Lines: a step's line is told as Print writes it, and of any length.
func TestP2002Lines(t *testing.T) {
	r, _, _ := roster.Read("αβ")
	for _, c := range said() {
		if line := script.Line(r, c.step); line != c.line {
			t.Errorf("Line(%v): %q, not %q", c.step, line, c.line)
		}
	}
	for _, many := range []int{0, 1, 10922, 10923, 32000, 1 << 20} {
		s := api.Step{Kind: api.StepForge, A: 1, Data: []byte(strings.Repeat("\u0080", many))}
		if line := script.Line(r, s); line != "forge β \""+strings.Repeat(`\u{80}`, many)+"\"" {
			t.Errorf("Line of %d characters: %q", many, begin(line))
		}
	}
	// What no text says has none.
	for _, s := range []api.Step{{}, {Kind: 13}, {Kind: -1}, {Kind: api.StepPoll, A: 2}, {Kind: api.StepPoll, A: -1}, {Kind: api.StepPoll, B: 1}, {Kind: api.StepTurn, A: -1}, {Kind: api.StepTurn, A: api.MaxNumber + 1}, {Kind: api.StepTurn, Data: []byte{0}}} {
		if line := script.Line(r, s); line != "" {
			t.Errorf("Line(%v): %q", s, line)
		}
	}
	if line := script.Line(roster.Roster{}, api.Step{Kind: api.StepPoll}); line != "" {
		t.Errorf("Line without a node: %q", line)
	}
}
