package earshot_test

import (
	"strings"
	"testing"

	"earshot/api"
	"earshot/earshot"
)

// holdRun holds that a script's transcript is this one; it tells the first line that is another one.
func holdRun(t testing.TB, text, want string) {
	t.Helper()
	got := earshot.Run(text)
	if got == want {
		return
	}
	is, should := strings.Split(got, "\n"), strings.Split(want, "\n")
	for i := range min(len(is), len(should)) {
		if is[i] != should[i] {
			t.Errorf("Run(%q): line %d is %q, not %q", start(text), i+1, start(is[i]), start(should[i]))
			return
		}
	}
	t.Errorf("Run(%q): %d lines, not %d", start(text), len(is), len(should))
}

// start tells as much of a text as a message has room for.
func start(text string) string { return text[:min(len(text), 300)] }

const exampleScript = `nodes "αβγ" faults 1
poll α
deliver 0
deliver 1
poll α
drop 7
`

const exampleTranscript = `start
  α begins life 1 tag 0 round 1
  β begins life 1 tag 0 round 1
  γ begins life 1 tag 0 round 1
0: poll α refused 170
  α asks 1
1: deliver 0
2: deliver 1
3: poll α
  α closes 1 heard αβ of αβγ
  α asks 2
4: drop 7
end
  α up life 1 round 2 tag 0 suspects - heard αβ repliers α
  β up life 1 round 1 tag 0 suspects - heard αβγ repliers β
  γ up life 1 round 1 tag 0 suspects - heard αβγ repliers γ
bag 2
  α to γ query α 1 []
  α to γ query α 2 []
`

func TestP2103Examples(t *testing.T) {
	holdRun(t, exampleScript, exampleTranscript)
	holdRun(t, strings.TrimSuffix(exampleScript, "\n"), exampleTranscript)
	holdRun(t, "x", "script error 200 at 1\n")
	holdRun(t, "nodes \"a\" faults 1", "rules refused\n")
}

// doubtScript has γ suspected, though it is up: it hears of it, and defends itself.
const doubtScript = `
# Blanks, empty lines and remarks are not told.
	nodes   "αβγ"	faults 1 # so many

poll α
deliver 0
deliver 1
poll α
poll β
deliver 3
deliver 4
poll β
deliver 1
deliver 5
   poll α # it doubts
deliver 6
double 6
deliver 1099511627774
move 6 0`

const doubtTranscript = `start
  α begins life 1 tag 0 round 1
  β begins life 1 tag 0 round 1
  γ begins life 1 tag 0 round 1
0: poll α refused 170
  α asks 1
1: deliver 0
2: deliver 1
3: poll α
  α closes 1 heard αβ of αβγ
  α asks 2
4: poll β refused 170
  β asks 1
5: deliver 3
6: deliver 4
7: poll β
  β closes 1 heard αβ of αβγ
  β asks 2
8: deliver 1
9: deliver 5
10: poll α
  α closes 2 heard αβ of αβ
  α doubts γ at 0
  α asks 3
11: deliver 6
  γ defends 1 durable 4
12: double 6
13: deliver 1099511627774
14: move 6 0
end
  α up life 1 round 3 tag 0 suspects - heard αβ repliers αγ
  β up life 1 round 2 tag 0 suspects - heard αβ repliers β
  γ up life 1 round 1 tag 1 suspects - heard αβγ repliers γ
bag 7
  γ to α reply γ 3 αβγ [γ!1]
  α to γ query α 1 []
  α to γ query α 2 []
  β to γ query β 1 []
  β to α query β 2 []
  β to γ query β 2 []
  α to β query α 3 [γ?0]
`

func TestP2103DoubtAndDefence(t *testing.T) { holdRun(t, doubtScript, doubtTranscript) }

// turnScript has a node down in turns, then up again.
const turnScript = `nodes "αβγ" faults 1
crash γ
flush 0
turn 0
turn 0
turn 5
crash γ
restart γ
restart γ
poll α
deliver 3
deliver 2
`

const turnTranscript = `start
  α begins life 1 tag 0 round 1
  β begins life 1 tag 0 round 1
  γ begins life 1 tag 0 round 1
0: crash γ
  γ is down
1: flush 0
2: turn 0
  α asks 1
  β asks 1
  α closes 1 heard αβ of αβγ
  α asks 2
  β closes 1 heard αβ of αβγ
  β asks 2
  polls 0 0
3: turn 0
  α asks 2
  β asks 2
  α closes 2 heard αβ of αβ
  α doubts γ at 0
  α asks 3
  β closes 2 heard αβ of αβ
  β doubts γ at 0
  β asks 3
  polls 0 0
4: turn 5
  α asks 3
  β asks 3
  α closes 3 heard αβ of αβ
  α asks 4
  β closes 3 heard αβ of αβ
  β asks 4
  polls 0 0
5: crash γ refused 171
6: restart γ
  γ begins life 2 tag 4 round 17
7: restart γ refused 172
8: poll α refused 170
  α asks 4
9: deliver 3
10: deliver 2
end
  α up life 1 round 4 tag 0 suspects γ heard αβ repliers α
  β up life 1 round 4 tag 0 suspects γ heard αβ repliers β
  γ up life 2 round 17 tag 4 suspects - heard αβγ repliers γ
bag 6
  α to β query α 4 [γ?0]
  α to γ query α 4 [γ?0]
  α to β query α 4 [γ?0]
  α to γ query α 4 [γ?0]
  γ to β reply γ 4 αβγ [γ!4]
  α to β reply α 4 αβ [γ?0]
`

func TestP2103Turns(t *testing.T) {
	holdRun(t, turnScript, turnTranscript)
	// No other step than a turn has polls; each of a turn is told, those that wait too.
	holdRun(t, "nodes \"αβγδ\" faults 0\ncrash β\nflush 0\nturn 1\n", `start
  α begins life 1 tag 0 round 1
  β begins life 1 tag 0 round 1
  γ begins life 1 tag 0 round 1
  δ begins life 1 tag 0 round 1
0: crash β
  β is down
1: flush 0
2: turn 1
  α asks 1
  γ asks 1
  δ asks 1
  α asks 1
  γ asks 1
  δ asks 1
  polls 170 170 170
end
  α up life 1 round 1 tag 0 suspects - heard αβγδ repliers αγδ
  β down
  γ up life 1 round 1 tag 0 suspects - heard αβγδ repliers αγδ
  δ up life 1 round 1 tag 0 suspects - heard αβγδ repliers αγδ
bag 9
  α to β query α 1 []
  α to γ query α 1 []
  α to δ query α 1 []
  γ to α query γ 1 []
  γ to β query γ 1 []
  γ to δ query γ 1 []
  δ to α query δ 1 []
  δ to β query δ 1 []
  δ to γ query δ 1 []
`)
}

// forgeScript has datagrams of all kinds in its bag, some of nobody, some spoilt; a bag of which nothing can be taken ahead of them.
const forgeScript = `nodes "αβγ" faults 1
drop 0
deliver 0
double 3
move 1 2
spoil 0 0 1
forge β "es\x03\x03\x02\x01\x00\x02\x00\x00\x03\t2\x00\xe7"
forge α "\x65\x73\x02\x03\x02\x00\x00\x00\x00\x07\x05\x02\x00\x02\x00\x00\x03\x01\x01\x10\x00\x00\x13\xc2\x01\x05"
forge γ "\xff\u{200b}é\"\n"
spoil 2 0 0
spoil 2 0 256
double 0
spoil 0 3 8
move 0 3
poll β
spoil 4 2 3
fuse β 0
crash α
deliver 1
poll α
forge γ ""
spoil 5 0 1
forge γ "ab\x00γ\u{85}"
`

const forgeTranscript = `start
  α begins life 1 tag 0 round 1
  β begins life 1 tag 0 round 1
  γ begins life 1 tag 0 round 1
0: drop 0 refused 91
1: deliver 0 refused 91
2: double 3 refused 91
3: move 1 2 refused 91
4: spoil 0 0 1 refused 91
5: forge β "es\x03\x03\x02\x01\x00\x02\x00\x00\x03\t2\x00\xe7"
6: forge α "es\x02\x03\x02\x00\x00\x00\x00\x07\x05\x02\x00\x02\x00\x00\x03\x01\x01\x10\x00\x00\x13\xc2\x01\x05"
7: forge γ "\xff\u{200b}é\"\n"
8: spoil 2 0 0 refused 1
9: spoil 2 0 256 refused 1
10: double 0
11: spoil 0 3 8
12: move 0 3
13: poll β refused 170
  β asks 1
14: spoil 4 2 3
15: fuse β 0
16: crash α
  α is down
17: deliver 1 refused 70
18: poll α refused 171
19: forge γ ""
20: spoil 5 0 1 refused 1
21: forge γ "ab\x00γ\u{85}"
end
  α down
  β up life 1 round 1 tag 0 suspects - heard αβγ repliers β
  γ up life 1 round 1 tag 0 suspects - heard αβγ repliers γ
bag 7
  ? to α reply γ 7 αγ [α?3 β!1048576]
  ? to β rumor γ [α?3]
  ? to β ? "es\x03\x0b\x02\x01\x00\x02\x00\x00\x03\t2\x00\xe7"
  β to α ? "es\x02\x03\x01\x00\x00\x00\x00\x01\x00\t\n\x00\xdf"
  β to γ query β 1 []
  ? to γ ? ""
  ? to γ ? "ab\x00γ\u{85}"
`

func TestP2103ForgedAndSpoilt(t *testing.T) { holdRun(t, forgeScript, forgeTranscript) }

// fuseScript has a node whose disk's power fails at a Poll, within a turn, and at a start.
const fuseScript = `nodes "🦉" faults 0
turn 0
turn 1
turn 2
turn 3
turn 4
turn 5
turn 6
fuse 🦉 1
poll 🦉
poll 🦉
turn 0
restart 🦉
fuse 🦉 0
crash 🦉
restart 🦉
`

func TestP2103Fuses(t *testing.T) {
	want := []string{"start", "  🦉 begins life 1 tag 0 round 1"}
	for i := range 7 {
		round := func(v int) string { return itoa(2*i + v) }
		want = append(want, itoa(i)+": turn "+itoa(i),
			"  🦉 closes "+round(1)+" heard 🦉 of 🦉", "  🦉 asks "+round(2),
			"  🦉 closes "+round(2)+" heard 🦉 of 🦉", "  🦉 asks "+round(3),
			"  polls 0")
	}
	holdRun(t, fuseScript, strings.Join(want, "\n")+`
7: fuse 🦉 1
8: poll 🦉
  🦉 closes 15 heard 🦉 of 🦉
  🦉 asks 16
9: poll 🦉 refused 100
  🦉 is down
10: turn 0
  polls
11: restart 🦉
  🦉 begins life 2 tag 4 round 17
12: fuse 🦉 0
13: crash 🦉
  🦉 is down
14: restart 🦉 refused 100
end
  🦉 down
bag 0
`)
}

func TestP2103NoSteps(t *testing.T) {
	holdRun(t, "nodes \"éa\" faults 1", `start
  é begins life 1 tag 0 round 1
  a begins life 1 tag 0 round 1
end
  é up life 1 round 1 tag 0 suspects - heard éa repliers é
  a up life 1 round 1 tag 0 suspects - heard éa repliers a
bag 0
`)
}

func TestP2103WhatIsRefused(t *testing.T) {
	for _, c := range []struct{ text, want string }{
		{"", "script error 200 at 0\n"},
		{"# nothing\n\n \t\n", "script error 200 at 0\n"},
		{strings.Repeat("\n", api.MaxText+1), "script error 2 at 0\n"},
		{exampleScript + strings.Repeat("#", api.MaxText), "script error 2 at 0\n"},
		{exampleScript + "poll \xFF", "script error 20 at 7\n"},
		{exampleScript + "deliver 01", "script error 21 at 7\n"},
		{exampleScript + "deliver 1099511627777", "script error 21 at 7\n"},
		{exampleScript + strings.Repeat("x", api.MaxName+1), "script error 22 at 7\n"},
		{exampleScript + "\n\nforge α \"", "script error 11 at 9\n"},
		{exampleScript + "\n\nforge α \"\\q\"", "script error 12 at 9\n"},
		{exampleScript + "poll δ\npoll", "script error 41 at 7\n"},
		{exampleScript + "poll\npoll δ", "script error 200 at 7\n"},
		{"nodes \"\" faults 0", "script error 40 at 1\n"},
		{"\nnodes \"a1\" faults 0", "script error 41 at 2\n"},
		{"nodes \"aba\" faults 0", "script error 42 at 1\n"},
		{"nodes \"" + manySigns(api.MaxNodes+1) + "\" faults 0", "script error 2 at 1\n"},
		{"nodes \"a\" faults 0\n" + strings.Repeat("turn 0\n", api.MaxSteps+1), "script error 2 at 4098\n"},
		// The script's errors come ahead of the rules'.
		{"nodes \"a\" faults 1\npoll b", "script error 41 at 2\n"},
		{"nodes \"a\" faults 1\npoll a", "rules refused\n"},
		{"nodes \"αβγ\" faults 3", "rules refused\n"},
		{"nodes \"αβγ\" faults 1099511627776", "rules refused\n"},
		{"nodes \"" + manySigns(api.MaxNodes) + "\" faults 100\nturn 0\n", "rules refused\n"},
	} {
		holdRun(t, c.text, c.want)
	}
}

// manySigns are so many signs, each of three bytes.
func manySigns(n int) string {
	var out strings.Builder
	for i := range n {
		out.WriteRune(rune(0x4E00 + i))
	}
	return out.String()
}

func TestP2103MostNodes(t *testing.T) {
	all := manySigns(api.MaxNodes)
	want := "start\n"
	for _, s := range all {
		want += "  " + string(s) + " begins life 1 tag 0 round 1\n"
	}
	want += "0: poll 乣 refused 170\n  乣 asks 1\nend\n"
	for _, s := range all {
		want += "  " + string(s) + " up life 1 round 1 tag 0 suspects - heard " + all + " repliers " + string(s) + "\n"
	}
	want += "bag 99\n"
	for _, s := range manySigns(api.MaxNodes - 1) {
		want += "  乣 to " + string(s) + " query 乣 1 []\n"
	}
	holdRun(t, "nodes \""+all+"\" faults 98\npoll 乣", want)
}

// TestP2103LongSteps: a step may be written with more bytes than it was read from, with more than a text may have too; it is told whole.
func TestP2103LongSteps(t *testing.T) {
	const ahead, behind = "start\n  a begins life 1 tag 0 round 1\n", "end\n  a up life 1 round 1 tag 0 suspects - heard a repliers a\nbag "
	head := "nodes \"a\" faults 0\n"
	for _, many := range []int{513, 10900, 10922, 10923, 32000} {
		text := head + "forge a \"" + strings.Repeat("\u0080", many) + "\"\n"
		holdRun(t, text, ahead+"0: forge a \""+strings.Repeat(`\u{80}`, many)+"\" refused 2\n"+behind+"0\n")
	}
	// No step is long by itself, the script is.
	one := strings.Repeat("\u0080", 500)
	lit := `"` + strings.Repeat(`\u{80}`, 500) + `"`
	text, want, bag := head, ahead, ""
	for i := range 60 {
		text += "forge a \"" + one + "\"\n"
		want += itoa(i) + ": forge a " + lit + "\n"
		bag += "  ? to a ? " + lit + "\n"
	}
	holdRun(t, text, want+behind+"60\n"+bag)
}

// TestP2103LongDatagrams: of a forged datagram all bytes are told, up to the last one that it may have.
func TestP2103LongDatagrams(t *testing.T) {
	data := strings.Repeat(`\xff`, api.MaxData)
	holdRun(t, "nodes \"a\" faults 0\nforge a \""+data+"\"\nforge a \""+data+"a\"", `start
  a begins life 1 tag 0 round 1
0: forge a "`+data+`"
1: forge a "`+data+`a" refused 2
end
  a up life 1 round 1 tag 0 suspects - heard a repliers a
bag 1
  ? to a ? "`+data+`"
`)
}

func TestP2103ManySteps(t *testing.T) {
	text := "nodes \"a\" faults 0\n" + strings.Repeat("drop 3\n", api.MaxSteps)
	got := earshot.Run(text)
	for _, line := range []string{"\n0: drop 3 refused 91\n", "\n10: drop 3 refused 91\n", "\n4095: drop 3 refused 91\nend\n"} {
		if !strings.Contains(got, line) {
			t.Errorf("Run of many steps has no %q", line)
		}
	}
	if lines := strings.Count(got, "\n"); lines != api.MaxSteps+5 {
		t.Errorf("Run of many steps: %d lines", lines)
	}
}

func TestP2104NothingIsKept(t *testing.T) {
	scripts := map[string]string{exampleScript: exampleTranscript, doubtScript: doubtTranscript, turnScript: turnTranscript, forgeScript: forgeTranscript, "x": "script error 200 at 1\n"}
	// Whatever was called ahead of it, each answer is the same.
	for range 3 {
		for text, want := range scripts {
			holdRun(t, text, want)
			earshot.Play(text)
			earshot.Last(text)
			for other, wanted := range scripts {
				holdRun(t, other, wanted)
			}
		}
	}
}

func TestP2104AtOneTime(t *testing.T) {
	for range 8 {
		t.Run("", func(t *testing.T) {
			t.Parallel()
			for range 5 {
				holdRun(t, exampleScript, exampleTranscript)
				holdRun(t, doubtScript, doubtTranscript)
				holdRun(t, turnScript, turnTranscript)
				holdRun(t, forgeScript, forgeTranscript)
			}
		})
	}
}
