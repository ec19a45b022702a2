package earshot_test

import (
	"reflect"
	"strings"
	"testing"

	"earshot/api"
	"earshot/audit"
	"earshot/earshot"
	"earshot/script"
)

// holdFault holds that Play and Last refuse a text so, and nothing stands beside the error.
func holdFault(t testing.TB, text string, want api.Errno, at int) {
	t.Helper()
	answers, e, line := earshot.Play(text)
	if len(answers) > 0 || e != want || line != at {
		t.Errorf("Play(%q): %d answers, error %d, line %d, not %d, %d", start(text), len(answers), e, line, want, at)
	}
	seen, e, line := earshot.Last(text)
	if len(seen) > 0 || e != want || line != at {
		t.Errorf("Last(%q): %d sights, error %d, line %d, not %d, %d", start(text), len(seen), e, line, want, at)
	}
}

// play tells what Play answers of a text that is right.
func play(t testing.TB, text string) []api.Answer {
	t.Helper()
	answers, e, line := earshot.Play(text)
	if e != api.OK || line != 0 {
		t.Fatalf("Play(%q): error %d, line %d", start(text), e, line)
	}
	return answers
}

// last tells what Last answers of a text that is right.
func last(t testing.TB, text string) []api.Sight {
	t.Helper()
	seen, e, line := earshot.Last(text)
	if e != api.OK || line != 0 {
		t.Fatalf("Last(%q): error %d, line %d", start(text), e, line)
	}
	return seen
}

// hold holds that two things are the same; empty lists in them are nil.
func hold(t testing.TB, what string, got, want any) {
	t.Helper()
	if !reflect.DeepEqual(got, want) {
		t.Errorf("%s: %+v, not %+v", what, got, want)
	}
}

// slim tells answers with nil in the place of each empty list.
func slim(answers []api.Answer) []api.Answer {
	var out []api.Answer
	for _, a := range answers {
		if len(a.Polls) == 0 {
			a.Polls = nil
		}
		if len(a.Events) == 0 {
			a.Events = nil
		}
		out = append(out, a)
	}
	return out
}

func TestP2101Example(t *testing.T) {
	hold(t, "Play", slim(play(t, exampleScript)), []api.Answer{
		{Code: api.ErrWaiting, Events: []api.Event{{Kind: api.EventAsk, Life: 1, Round: 1}}},
		{},
		{},
		{Events: []api.Event{
			{Kind: api.EventClose, Life: 1, Round: 1, Heard: api.Set{3}, Union: api.Set{7}},
			{Kind: api.EventAsk, Life: 1, Round: 2},
		}},
		{},
	})
	fresh := []api.Notice{{Of: 0, Kind: api.Mistake}, {Of: 1, Kind: api.Mistake}, {Of: 2, Kind: api.Mistake}}
	hold(t, "Last", last(t, exampleScript), []api.Sight{
		{Up: true, Life: 1, Round: 2, Heard: api.Set{3}, Repliers: api.Set{1}, Book: fresh},
		{Up: true, Life: 1, Round: 1, Heard: api.Set{7}, Repliers: api.Set{2}, Book: fresh},
		{Up: true, Life: 1, Round: 1, Heard: api.Set{7}, Repliers: api.Set{4}, Book: fresh},
	})
}

func TestP2101DownAndPolls(t *testing.T) {
	text := "nodes \"αβγ\" faults 1\ncrash γ\nflush 0\nturn 0\nturn 0\nturn 0\n"
	answers := play(t, text)
	if len(answers) != 5 {
		t.Fatalf("Play: %d answers", len(answers))
	}
	hold(t, "a crash", answers[0].Events, []api.Event{{Kind: api.EventDown, Node: 2, Life: 1}})
	hold(t, "a turn's polls", answers[4].Polls, []api.Errno{api.OK, api.OK})
	seen := last(t, text)
	if len(seen) != 3 || seen[0].Suspects != (api.Set{4}) || seen[1].Suspects != (api.Set{4}) || seen[0].Book[2] != (api.Notice{Of: 2, Kind: api.Suspicion}) {
		t.Errorf("Last: %+v", seen)
	}
	hold(t, "a node that is down", seen[2], api.Sight{})
}

func TestP2101NoSteps(t *testing.T) {
	if answers := play(t, "nodes \"αβ\" faults 1"); len(answers) != 0 {
		t.Errorf("Play without steps: %v", answers)
	}
	if seen := last(t, "nodes \"αβ\" faults 1"); len(seen) != 2 || !seen[0].Up || !seen[1].Up || seen[1].Repliers != (api.Set{2}) {
		t.Errorf("Last without steps: %v", seen)
	}
}

func TestP2101Faults(t *testing.T) {
	holdFault(t, "", api.ErrScript, 0)
	holdFault(t, "x", api.ErrScript, 1)
	holdFault(t, strings.Repeat(" ", api.MaxText+1), api.ErrLong, 0)
	holdFault(t, exampleScript+"poll δ", api.ErrSign, 7)
	holdFault(t, exampleScript+"\n\npoll α α", api.ErrScript, 9)
	holdFault(t, exampleScript+"poll ×", api.ErrChar, 7)
	holdFault(t, exampleScript+"drop 1099511627777", api.ErrNumber, 7)
	holdFault(t, "nodes \"αα\" faults 0", api.ErrTwice, 1)
	holdFault(t, "nodes \"a\" faults 0\n"+strings.Repeat("turn 0\n", api.MaxSteps+1), api.ErrLong, api.MaxSteps+2)
	// What the cluster refuses has no line, wherever the rules stand; what the script refuses comes ahead of it.
	holdFault(t, "nodes \"a\" faults 1", api.ErrArg, 0)
	holdFault(t, "\n\nnodes \"a\" faults 1\n\npoll a\n", api.ErrArg, 0)
	holdFault(t, "nodes \"a\" faults 1\npoll b", api.ErrSign, 2)
	holdFault(t, "nodes \"a\" faults 1099511627776", api.ErrArg, 0)
	holdFault(t, "nodes \"a\" faults 1099511627777", api.ErrNumber, 1)
}

// TestP2101HowManyNodes: there are as many as signs, not as many as bytes of these.
func TestP2101HowManyNodes(t *testing.T) {
	for _, n := range []int{1, 2, 3, 50, api.MaxNodes} {
		head := "nodes \"" + manySigns(n) + "\" faults "
		for _, f := range []int{0, n / 2, n - 1} {
			if seen := last(t, head+itoa(f)); len(seen) != n {
				t.Errorf("Last of %d nodes: %d sights", n, len(seen))
			}
		}
		for _, f := range []int{n, n + 1, 3*n - 1, 3 * n, 1000} {
			holdFault(t, head+itoa(f), api.ErrArg, 0)
		}
	}
}

// TestP2101Apart: no list of an answer is that of another one, nor of another call.
func TestP2101Apart(t *testing.T) {
	for _, text := range []string{turnScript, doubtScript, forgeScript} {
		first, again := play(t, text), play(t, text)
		for i := range first {
			// What is written into one, behind its end too, is seen in no other.
			spoil(first[i].Events[:cap(first[i].Events)], api.Event{Kind: 99})
			spoil(first[i].Polls[:cap(first[i].Polls)], 99)
			hold(t, "the answers behind one that was changed", first[i+1:], again[i+1:])
		}
		hold(t, "Play once more", play(t, text), again)
		seen, sight := last(t, text), last(t, text)
		for i := range seen {
			spoil(seen[i].Book[:cap(seen[i].Book)], api.Notice{Of: 99})
			hold(t, "the sights behind one that was changed", seen[i+1:], sight[i+1:])
		}
		hold(t, "Last once more", last(t, text), sight)
	}
}

// spoil puts x everywhere into a list.
func spoil[T any](l []T, x T) {
	for i := range l {
		l[i] = x
	}
}

// holdLaws holds that the events of a script, those of its start ahead of them, keep the laws of a history.
func holdLaws(t testing.TB, text string) {
	t.Helper()
	rules, _, e, _ := script.Parse(text)
	if e != api.OK {
		return
	}
	answers, e, _ := earshot.Play(text)
	if e != api.OK {
		return
	}
	var history []api.Event
	n := len([]rune(rules.Signs))
	for id := range n {
		history = append(history, api.Event{Kind: api.EventBegin, Node: id, Life: 1, Round: 1})
	}
	for _, a := range answers {
		history = append(history, a.Events...)
	}
	if at, e := audit.Check(n, rules.F, history); e != api.OK {
		t.Errorf("the history of %q breaks a law at %d: error %d", start(text), at, e)
	}
}
