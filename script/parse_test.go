package script_test

import (
	"slices"
	"strconv"
	"strings"
	"testing"

	"earshot/api"
	"earshot/script"
)

// head is a line of rules, with which the node 0 is α, 1 is β.
const head = "nodes \"αβ\" faults 1\n"

// two are the rules that it says.
func two() api.Rules { return api.Rules{Signs: "αβ", F: 1} }

// begin tells as much of a text as a message has room for.
func begin(text string) string { return text[:min(len(text), 200)] }

// alike tells whether two steps are the same; of lists, none and an empty one are.
func alike(x, y api.Step) bool {
	return x.Kind == y.Kind && x.A == y.A && x.B == y.B && x.C == y.C && slices.Equal(x.Data, y.Data)
}

// holdRead holds that a text says these rules and steps.
func holdRead(t testing.TB, text string, rules api.Rules, steps ...api.Step) {
	t.Helper()
	r, l, e, line := script.Parse(text)
	if r != rules || !slices.EqualFunc(l, steps, alike) || e != api.OK || line != 0 {
		t.Errorf("Parse(%q): %v, %v, error %d, line %d, not %v, %v", begin(text), r, l, e, line, rules, steps)
	}
}

// holdFault holds that a text is refused so, and nothing stands beside the error.
func holdFault(t testing.TB, text string, want api.Errno, at int) {
	t.Helper()
	r, l, e, line := script.Parse(text)
	if r != (api.Rules{}) || len(l) > 0 || e != want || line != at {
		t.Errorf("Parse(%q): %v, %d steps, error %d, line %d, not %d, %d", begin(text), r, len(l), e, line, want, at)
	}
}

func TestP2001Examples(t *testing.T) {
	holdRead(t, "nodes \"αβ\" faults 1 # x\n\npoll β\nspoil 0 3 255\nforge α \"\\x00\"", two(),
		api.Step{Kind: api.StepPoll, A: 1},
		api.Step{Kind: api.StepSpoil, A: 0, B: 3, C: 255},
		api.Step{Kind: api.StepForge, A: 0, Data: []byte{0}})
	holdFault(t, "", api.ErrScript, 0)
	holdFault(t, "poll α", api.ErrScript, 1)
	holdFault(t, "nodes \"αα\" faults 0", api.ErrTwice, 1)
	holdFault(t, head+"poll γ", api.ErrSign, 2)
	holdFault(t, head+"poll", api.ErrScript, 2)
	holdFault(t, head+"poll α 1", api.ErrScript, 2)
	holdFault(t, head+"crash 1", api.ErrScript, 2)
}

// said are lines, each with its step, in the form that Print writes too.
func said() []struct {
	line string
	step api.Step
} {
	return []struct {
		line string
		step api.Step
	}{
		{"poll α", api.Step{Kind: api.StepPoll}},
		{"poll β", api.Step{Kind: api.StepPoll, A: 1}},
		{"crash α", api.Step{Kind: api.StepCrash}},
		{"crash β", api.Step{Kind: api.StepCrash, A: 1}},
		{"restart α", api.Step{Kind: api.StepRestart}},
		{"restart β", api.Step{Kind: api.StepRestart, A: 1}},
		{"fuse α 0", api.Step{Kind: api.StepFuse}},
		{"fuse β 7", api.Step{Kind: api.StepFuse, A: 1, B: 7}},
		{"deliver 0", api.Step{Kind: api.StepDeliver}},
		{"deliver 1", api.Step{Kind: api.StepDeliver, A: 1}},
		{"drop 2", api.Step{Kind: api.StepDrop, A: 2}},
		{"double 30", api.Step{Kind: api.StepDouble, A: 30}},
		{"flush 4", api.Step{Kind: api.StepFlush, A: 4}},
		{"turn 1099511627776", api.Step{Kind: api.StepTurn, A: api.MaxNumber}},
		{"move 5 6", api.Step{Kind: api.StepMove, A: 5, B: 6}},
		{"move 0 6", api.Step{Kind: api.StepMove, B: 6}},
		{"spoil 7 8 9", api.Step{Kind: api.StepSpoil, A: 7, B: 8, C: 9}},
		{"spoil 0 0 1099511627776", api.Step{Kind: api.StepSpoil, C: api.MaxNumber}},
		{"forge α \"\"", api.Step{Kind: api.StepForge}},
		{"forge β \"poll α # é\\\"\\\\\\n\\xff\\x00\\u{200b}🦉\"", api.Step{Kind: api.StepForge, A: 1, Data: []byte("poll α # é\"\\\n\xFF\x00\u200B🦉")}},
	}
}

func TestP2001EachStep(t *testing.T) {
	kinds := map[int]int{}
	text, steps := head, []api.Step{}
	for _, c := range said() {
		holdRead(t, head+c.line, two(), c.step)
		holdRead(t, head+c.line+"\n", two(), c.step)
		text, steps = text+c.line+"\n", append(steps, c.step)
		kinds[c.step.Kind]++
	}
	holdRead(t, text, two(), steps...)
	for kind := api.StepPoll; kind <= api.StepTurn; kind++ {
		if kinds[kind] == 0 {
			t.Errorf("no line of the kind %d", kind)
		}
	}
}

func TestP2001Rules(t *testing.T) {
	holdRead(t, "nodes \"a\" faults 0", api.Rules{Signs: "a"})
	holdRead(t, "nodes \"🦉\" faults 0\npoll 🦉", api.Rules{Signs: "🦉"}, api.Step{Kind: api.StepPoll})
	// The text is what the quoted text says.
	holdRead(t, "nodes \"\\u{3b1}\\x62\\xc3\\xa9\" faults 2\npoll é", api.Rules{Signs: "αbé", F: 2}, api.Step{Kind: api.StepPoll, A: 2})
	// Signs may be letters of the words, a sign may be a word's only one.
	holdRead(t, "nodes \"nodesaflt\" faults 3\npoll n\ncrash t", api.Rules{Signs: "nodesaflt", F: 3}, api.Step{Kind: api.StepPoll}, api.Step{Kind: api.StepCrash, A: 8})
	// Whether F is below n is not looked at.
	for _, f := range []int{0, 1, 2, 9, api.MaxNodes, 1 << 32, api.MaxNumber} {
		holdRead(t, "nodes \"a\" faults "+strconv.Itoa(f), api.Rules{Signs: "a", F: f})
	}
}

func TestP2001BlanksRemarksAndLines(t *testing.T) {
	holdRead(t, " \t\r\n# x \xFF\n\n  nodes\t\"αβ\"  faults\r1#y\r\n\r\n\tpoll  β # z\n# poll α\n\n", two(), api.Step{Kind: api.StepPoll, A: 1})
	holdRead(t, "nodes\"αβ\"faults 1\nforge α\"#\"# x", two(), api.Step{Kind: api.StepForge, Data: []byte("#")})
	// Lines without words are counted.
	holdFault(t, "\n\n# x\npoll α", api.ErrScript, 4)
	holdFault(t, "\n\nnodes \"αα\" faults 1", api.ErrTwice, 3)
	holdFault(t, "\n"+head+"\n# x\n\npoll γ\npoll", api.ErrSign, 6)
	// A line's end ends its words.
	holdFault(t, "nodes \"αβ\"\nfaults 1", api.ErrScript, 1)
	holdFault(t, head+"poll\nα", api.ErrScript, 2)
	holdFault(t, head+"poll # α", api.ErrScript, 2)
}

func TestP2001NoWords(t *testing.T) {
	for _, text := range []string{"", " ", "\t\r ", "\n", "\n\n\n", "# nodes \"a\" faults 0", "  # x\n # y\n ", "\n   ", strings.Repeat("\n", api.MaxText)} {
		holdFault(t, text, api.ErrScript, 0)
	}
}

func TestP2001NoLineOfRules(t *testing.T) {
	for _, line := range []string{
		"nodes", "nodes \"αβ\"", "nodes \"αβ\" faults", "nodes faults 1", "\"αβ\" faults 1", "nodes \"αβ\" 1", "nodes \"αβ\" faults 1 1",
		"nodes \"αβ\" faults 1 x", "nodes \"αβ\" faults 1 \"αβ\"", "nodes αβ faults 1", "nodes 1 faults 1", "nodes \"αβ\" faults α",
		"nodes \"αβ\" faults \"1\"", "nodes \"αβ\" faults -1", "nodes \"αβ\" fault 1", "nodes \"αβ\" nodes 1", "faults \"αβ\" nodes 1", "node \"αβ\" faults 1",
		"Nodes \"αβ\" faults 1", "\"nodes\" \"αβ\" faults 1", "nodes \"αβ\" \"faults\" 1", "faults 1 nodes \"αβ\"", "nodesx \"αβ\" faults 1",
		"nodes \"αβ\", faults 1", "poll α", "turn 0", "x", "1", "\"\"", "-", "?",
		// Its words are looked at ahead of its signs.
		"nodes \"\" faults", "nodes \"αα\" faults x", "nodes \"1\" faults 1 1", "nodes \"\" fault 1",
	} {
		holdFault(t, line, api.ErrScript, 1)
		holdFault(t, "\n"+line+"\n"+head+"poll α", api.ErrScript, 2)
	}
}

// letters tells so many letters, all unlike.
func letters(many int) string {
	var out strings.Builder
	for i := range many {
		out.WriteRune('가' + rune(i))
	}
	return out.String()
}

func TestP2001SignsThatARosterRefuses(t *testing.T) {
	for text, e := range map[string]api.Errno{
		`""`: api.ErrNone, `"α1"`: api.ErrSign, `"1"`: api.ErrSign, `"α β"`: api.ErrSign, `"α\xff"`: api.ErrSign, `"\n"`: api.ErrSign, `"-"`: api.ErrSign,
		`"αα"`: api.ErrTwice, `"αβγα"`: api.ErrTwice, `"αβα1"`: api.ErrTwice, `"αβ1α"`: api.ErrSign, `"α\u{3b1}"`: api.ErrTwice,
		`"` + letters(api.MaxNodes+1) + `"`: api.ErrLong, `"` + letters(api.MaxNodes) + `1"`: api.ErrSign,
	} {
		holdFault(t, "nodes "+text+" faults 0", e, 1)
		holdFault(t, "# x\n\n nodes "+text+" faults 1099511627776\npoll γ\nx", e, 3)
	}
	all := letters(api.MaxNodes)
	holdRead(t, "nodes \""+all+"\" faults 0\npoll "+string('가'+rune(99)), api.Rules{Signs: all}, api.Step{Kind: api.StepPoll, A: 99})
}

func TestP2001NoStep(t *testing.T) {
	for _, line := range []string{
		"poll", "poll 0", "poll αβ", "poll \"α\"", "poll -", "poll α β", "poll α 1", "poll α \"\"", "poll pollα", "α poll", "α", "Poll α", "polls α", "pol α", "\"poll\" α",
		"crash", "crash 1", "crash α α", "restart", "restart 0", "restart α 1", "restart αα",
		"fuse", "fuse α", "fuse 1", "fuse 1 α", "fuse 0 1", "fuse α β", "fuse α \"1\"", "fuse α 1 2", "fuse α -1", "fuse αβ 1", "fuse α 1 α",
		"deliver", "deliver α", "deliver \"1\"", "deliver 1 2", "deliver -1", "deliver 1 drop", "deliver 1 deliver 2",
		"drop", "drop α", "drop 1 2", "double", "double β", "double 1 1", "flush", "flush α", "flush 1 2", "turn", "turn turn", "turn 1 2",
		"move", "move 1", "move 1 2 3", "move α 1", "move 1 α", "move α β", "spoil", "spoil 1", "spoil 1 2", "spoil 1 2 3 4", "spoil α 2 3", "spoil 1 α 3", "spoil 1 2 α", "spoil 1 2 \"3\"",
		"forge", "forge α", "forge \"\"", "forge \"\" α", "forge 0 \"\"", "forge α β", "forge α 1", "forge α \"\" \"\"", "forge α \"\" 1", "forge \"α\" \"\"", "forge αβ \"\"",
		"nodes \"αβ\" faults 1", "faults 1", "1", "\"\"", "-", "?", "poll, α", "poll α;",
		// Its words are looked at ahead of its signs.
		"poll γ 1", "poll γ γ", "fuse γ", "fuse γ α", "fuse γ 1 2", "forge γ", "forge γ γ", "forge γ \"\" 1", "crash γδ",
	} {
		holdFault(t, head+line, api.ErrScript, 2)
		holdFault(t, head+"turn 0\n\n"+line+"\npoll γ", api.ErrScript, 4)
	}
}

func TestP2001SignsOfNoNode(t *testing.T) {
	for _, sign := range []string{"γ", "a", "p", "Α", "🦉", "가"} {
		for _, line := range []string{"poll " + sign, "crash " + sign, "restart " + sign, "fuse " + sign + " 1", "forge " + sign + " \"\""} {
			holdFault(t, head+line, api.ErrSign, 2)
			holdFault(t, head+"turn 0\npoll β\n\n"+line+"\nx", api.ErrSign, 5)
		}
	}
}

func TestP2001FaultsOfScanComeFirst(t *testing.T) {
	for _, c := range []struct {
		text string
		e    api.Errno
	}{
		{"×", api.ErrChar}, {"\xFF", api.ErrChar}, {"_×", api.ErrChar}, {"012", api.ErrNumber}, {"1a", api.ErrNumber}, {"1099511627777", api.ErrNumber},
		{strings.Repeat("a", api.MaxName+1), api.ErrName}, {"\"\\q\"", api.ErrEscape}, {"\"\x01\"", api.ErrRune}, {"\"", api.ErrQuote}, {"\"a\nb\"", api.ErrQuote},
	} {
		for _, ahead := range []string{"", head, head + "poll ", "x\n", "nodes \"\" faults 1\n", head + "poll γ\npoll\n", head + "spoil 1 2 3 \n\n", strings.Repeat("turn 0\n", api.MaxSteps+2)} {
			holdFault(t, ahead+c.text, c.e, 1+strings.Count(ahead, "\n"))
			holdFault(t, ahead+c.text+"\n×\nx", c.e, 1+strings.Count(ahead, "\n"))
		}
	}
	holdFault(t, "nodes \"\\q\" faults 1", api.ErrEscape, 1)
	holdFault(t, "nodes \"αβ\" faults 01", api.ErrNumber, 1)
	holdFault(t, head+"deliver 1099511627777", api.ErrNumber, 2)
}

func TestP2001LongTexts(t *testing.T) {
	text := head + "poll β"
	blanks := strings.Repeat(" ", api.MaxText-len(text))
	holdRead(t, text+blanks, two(), api.Step{Kind: api.StepPoll, A: 1})
	holdFault(t, text+blanks+" ", api.ErrLong, 0)
	holdFault(t, strings.Repeat("\xFF", api.MaxText+1), api.ErrLong, 0)
	holdFault(t, strings.Repeat("x\n", api.MaxText), api.ErrLong, 0)
	// A datagram may have more bytes than any: that is not looked at here.
	forge := head + "forge β \""
	data := strings.Repeat("a", api.MaxText-len(forge)-1)
	holdRead(t, forge+data+"\"", two(), api.Step{Kind: api.StepForge, A: 1, Data: []byte(data)})
	holdFault(t, forge+data+"a\"", api.ErrLong, 0)
}

func TestP2001ManySteps(t *testing.T) {
	full := head + strings.Repeat("turn 3\n", api.MaxSteps)
	last := api.MaxSteps + 2 // the line behind those
	holdRead(t, full, two(), slices.Repeat([]api.Step{{Kind: api.StepTurn, A: 3}}, api.MaxSteps)...)
	holdRead(t, full+"# x\n\n \n", two(), slices.Repeat([]api.Step{{Kind: api.StepTurn, A: 3}}, api.MaxSteps)...)
	for _, c := range said() {
		holdFault(t, full+c.line, api.ErrLong, last)
		holdFault(t, full+"\n# x\n"+c.line+"\nx\npoll γ", api.ErrLong, last+2)
	}
	// One that offends in something else is told for that.
	holdFault(t, full+"poll γ", api.ErrSign, last)
	holdFault(t, full+"forge γ \"\"", api.ErrSign, last)
	holdFault(t, full+"poll", api.ErrScript, last)
	holdFault(t, full+"fuse γ", api.ErrScript, last)
	holdFault(t, full+head, api.ErrScript, last)
	holdFault(t, full+"×", api.ErrChar, last)
	// And a line ahead of it is told ahead of it.
	holdFault(t, head+"poll γ\n"+strings.Repeat("turn 3\n", api.MaxSteps+1), api.ErrSign, 2)
	holdFault(t, "nodes \"\" faults 1\n"+strings.Repeat("turn 3\n", api.MaxSteps+1), api.ErrNone, 1)
}

func TestP2001TheFirstLineThatOffends(t *testing.T) {
	holdFault(t, head+"poll γ\npoll", api.ErrSign, 2)
	holdFault(t, head+"poll\npoll γ", api.ErrScript, 2)
	holdFault(t, head+"poll α\npoll β\nfuse γ 1\ncrash\npoll δ", api.ErrSign, 4)
	holdFault(t, "nodes \"αα\" faults 0\npoll", api.ErrTwice, 1)
	holdFault(t, "poll α\nnodes \"αα\" faults 0", api.ErrScript, 1)
	holdFault(t, head+head, api.ErrScript, 2)
}

func TestP2001StepsAreNewMemory(t *testing.T) {
	text := head + "forge α \"abc\"\nforge β \"abc\""
	_, first, _, _ := script.Parse(text)
	for i := range first[0].Data[:cap(first[0].Data)] {
		first[0].Data[:cap(first[0].Data)][i] = 'x'
	}
	if string(first[1].Data) != "abc" {
		t.Errorf("the other step has %q now", first[1].Data)
	}
	first[1].Kind = 99
	holdRead(t, text, two(), api.Step{Kind: api.StepForge, Data: []byte("abc")}, api.Step{Kind: api.StepForge, A: 1, Data: []byte("abc")})
}
