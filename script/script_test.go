package script_test

import (
	"errors"
	"math"
	"slices"
	"strconv"
	"strings"
	"testing"

	"frankpledge/api"
	"frankpledge/card"
	"frankpledge/fault"
	"frankpledge/script"
	"frankpledge/world"
)

// lines are lines and the acts that they are.
var lines = []struct {
	line string
	act  api.Act
}{
	{"tick 0 5", api.Act{Kind: api.Tick, A: 0, N: 5}},
	{"tick -1 -9223372036854775808", api.Act{Kind: api.Tick, A: -1, N: math.MinInt64}},
	{"deliver 0", api.Act{Kind: api.Deliver}},
	{"deliver 9223372036854775807", api.Act{Kind: api.Deliver, N: math.MaxInt64}},
	{"drop 12", api.Act{Kind: api.Drop, N: 12}},
	{"twice -7", api.Act{Kind: api.Twice, N: -7}},
	{"cut 1 2", api.Act{Kind: api.Cut, A: 1, B: 2}},
	{"heal 2 -1", api.Act{Kind: api.Heal, A: 2, B: -1}},
	{"crash 3", api.Act{Kind: api.Crash, A: 3}},
	{"register 4 30 1", api.Act{Kind: api.Do, A: 4, Op: api.Register, N: 30, Status: 1}},
	{"cancel 4", api.Act{Kind: api.Do, A: 4, Op: api.Cancel}},
	{"override 4 3", api.Act{Kind: api.Do, A: 4, Op: api.Override, Status: 3}},
	{"look 5 app0", api.Act{Kind: api.Look, A: 5, App: "app0"}},
	{"look 5 \t!\xff", api.Act{Kind: api.Look, A: 5, App: "\t!\xff"}},
}

func TestLine(t *testing.T) {
	for _, c := range lines {
		if got, err := script.Line(c.line); err != nil || got != c.act {
			t.Errorf("P25.1: Line(%q): %+v, %v", c.line, got, err)
		}
	}
}

func TestLineRefuses(t *testing.T) {
	for _, s := range []string{
		"", " ", "tick", "tick 0", "tick 0 5 ", " tick 0 5", "tick  0 5", "tick 0 5 6", "Tick 0 5", "ticks 0 5", "tick 0 5\n", "\ntick 0 5", "tick 0\n5",
		"tick 0 +5", "tick 0 05", "tick 0 -0", "tick 0 -05", "tick 00 5", "tick 0 5x", "tick 0 0x5", "tick 0 1_0", "tick 0 -", "tick a 5", "tick 0 5.0", "tick 0 1e3", "tick\t0 5", "tick 0 ٣",
		"tick 0 9223372036854775808", "tick 0 -9223372036854775809", "tick 9223372036854775808 1", "tick 0 99999999999999999999",
		"deliver", "deliver 1 2", "drop x", "twice", "cut 1", "cut 1 2 3", "heal", "crash", "crash 1 2",
		"register 1 2", "register 1 2 3 4", "register 1 2 up", "cancel", "cancel 1 2", "override 1", "override 1 2 3", "override 1 99999999999999999999",
		"look 1", "look 1 ", "look 1 a b", "look x a", "look 1 a\n", "do 1 1", "renew 1", "fetch 1", "# tick 0 5",
	} {
		got, err := script.Line(s)
		first, _, _ := strings.Cut(s, " ")
		if fault.Code(err) != api.ErrForm || got != (api.Act{}) {
			t.Errorf("P25.1: Line(%q): %+v, %v", s, got, err)
		}
		if !strings.Contains(s, "\n") && !slices.Equal(fault.Path(err), []string{first}) {
			t.Errorf("P25.1: Line(%q): %q", s, fault.Path(err))
		}
	}
}

func TestParse(t *testing.T) {
	acts, errs := script.Parse("tick 0 5\n\n\nnonsense 1\ndeliver 0\n tick 0 5\ncrash 1\n\ntick 0")
	want := []api.Act{{Kind: api.Tick, N: 5}, {Kind: api.Deliver}, {Kind: api.Crash, A: 1}}
	if !slices.Equal(acts, want) {
		t.Errorf("P25.1: Parse: %v", acts)
	}
	paths := [][]string{{"line 4", "nonsense"}, {"line 6", ""}, {"line 9", "tick"}}
	if len(errs) != len(paths) {
		t.Fatalf("P25.1: Parse: %v", errs)
	}
	for i, err := range errs {
		if !slices.Equal(fault.Path(err), paths[i]) || !errors.Is(err, api.ErrForm) {
			t.Errorf("P25.1: fault %d: %q", i, fault.Path(err))
		}
	}
	for _, s := range []string{"", "\n", "\n\n\n"} {
		if acts, errs := script.Parse(s); len(acts) != 0 || len(errs) != 0 {
			t.Errorf("P25.1: Parse(%q): %v, %v", s, acts, errs)
		}
	}
	if acts, errs := script.Parse("crash 1\n"); len(acts) != 1 || len(errs) != 0 {
		t.Errorf("P25.1: Parse of a line that ends: %v, %v", acts, errs)
	}
}

func TestParseOfTooMany(t *testing.T) {
	s := strings.Repeat("crash 0\n\nwrong\n", api.MaxScript/2)
	acts, errs := script.Parse(s + "crash 1\nwrong\n")
	if len(acts) != api.MaxScript/2 || len(errs) != api.MaxScript/2 {
		t.Fatalf("P25.1: Parse of too many: %d, %d", len(acts), len(errs))
	}
	if last := fault.Path(errs[len(errs)-1])[0]; last != "line "+strconv.Itoa(3*api.MaxScript/2) {
		t.Errorf("P25.1: the last fault: %q", last)
	}
	acts, _ = script.Parse(strings.Repeat("\n", 5000) + "crash 1")
	if len(acts) != 1 {
		t.Error("P25.1: empty lines do not count")
	}
	acts, errs = script.Parse(strings.Repeat("crash 0\n", api.MaxScript-1) + "crash 7\ncrash 8")
	if len(acts) != api.MaxScript || acts[api.MaxScript-1].A != 7 || len(errs) != 0 {
		t.Errorf("P25.1: as many as are looked at: %d", len(acts))
	}
}

func TestText(t *testing.T) {
	var acts []api.Act
	var want strings.Builder
	for _, c := range lines {
		acts = append(acts, c.act)
		want.WriteString(c.line + "\n")
	}
	text := script.Text(acts)
	if text != want.String() {
		t.Errorf("P25.1: Text: %q", text)
	}
	if back, errs := script.Parse(text); !slices.Equal(back, acts) || len(errs) != 0 {
		t.Errorf("P25.1: Parse of Text: %v, %v", back, errs)
	}
	if script.Text(nil) != "" {
		t.Error("P25.1: Text of nothing")
	}
}

func TestTextLeavesOut(t *testing.T) {
	for _, a := range []api.Act{
		{}, {Kind: 10}, {Kind: -1}, {Kind: api.Do}, {Kind: api.Do, Op: api.Renew}, {Kind: api.Do, Op: api.Fetch},
		{Kind: api.Tick, B: 1}, {Kind: api.Tick, Op: 1}, {Kind: api.Tick, Status: 1}, {Kind: api.Tick, App: "a"},
		{Kind: api.Deliver, A: 1}, {Kind: api.Drop, App: "a"}, {Kind: api.Twice, Op: api.Cancel}, {Kind: api.Cut, N: 1}, {Kind: api.Heal, Status: 1}, {Kind: api.Crash, B: 2}, {Kind: api.Crash, N: 2},
		{Kind: api.Do, Op: api.Cancel, N: 1}, {Kind: api.Do, Op: api.Cancel, Status: 1}, {Kind: api.Do, Op: api.Override, N: 1}, {Kind: api.Do, Op: api.Register, B: 1}, {Kind: api.Do, Op: api.Register, App: "a"},
		{Kind: api.Look}, {Kind: api.Look, App: "a b"}, {Kind: api.Look, App: "a\n"}, {Kind: api.Look, App: "a", N: 1}, {Kind: api.Look, App: "a", Op: 1},
	} {
		if got := script.Text([]api.Act{{Kind: api.Crash}, a, {Kind: api.Deliver, N: 3}}); got != "crash 0\ndeliver 3\n" {
			t.Errorf("P25.1: Text of %+v: %q", a, got)
		}
	}
}

func TestRun(t *testing.T) {
	text := "register 1 30 1\ntick 1 1\ndeliver 0\nwhat\ndeliver 0\ntick 1 1\ndeliver 0\ndeliver 0\nlook 1 app0\ndeliver 0\ntick 9 1\n"
	found := api.Card{Key: api.Key{App: "app0", ID: "id0"}, Status: api.Up, Lease: 30, Stamp: api.Stamp{N: 1}}
	want := []api.Event{{}, {Node: 1, Bag: 1}, {Bag: 1}, {Node: 1}, {Node: 1, Bag: 1}, {Bag: 1}, {Node: 1}, {Found: []api.Card{found}}, {Why: api.ErrIndex}, {Why: api.ErrIndex}}
	got, errs := script.Run(world.New(1, 1), text)
	if len(got) != len(want) || len(errs) != 1 || !slices.Equal(fault.Path(errs[0]), []string{"line 4", "what"}) {
		t.Fatalf("P25.1: Run: %v, %v", got, errs)
	}
	for i, e := range got {
		w := want[i]
		if e.Why != w.Why || e.Node != w.Node || e.Code != w.Code || e.Bag != w.Bag || !card.Same(e.Found, w.Found) {
			t.Errorf("P25.1: event %d: %+v, not %+v", i, e, w)
		}
	}
	got, errs = script.Run(nil, text)
	if len(got) != 0 || len(errs) != 0 {
		t.Errorf("R1: Run of nil: %v, %v", got, errs)
	}
}
