package judge_test

import (
	"math/rand"
	"slices"
	"strconv"
	"strings"
	"testing"

	"recto/api"
	"recto/cmd"
	"recto/files"
	"recto/index"
	"recto/judge"
	"recto/names"
	"recto/repo"
	"recto/shelf"
	"recto/state"
)

func edit(p, data string) judge.Item { return judge.Item{Path: p, Mode: api.Plain, Data: data} }

func line(s string) judge.Item { return judge.Item{Line: s} }

// short is a day on which all goes well, but for a word.
func short() []judge.Item {
	return []judge.Item{
		edit("a", "1\n"), line("add"), line("commit one"), line("branch dev"), edit("a", "2\n"), {Ticks: 3, Line: "add a"}, line("commit two"),
		line("switch dev"), edit("a", "3\n"), line("nope"), {Path: "b", Mode: api.Run, Data: "b", Line: "add"}, line("commit three"), line("merge main"), line("abort"),
		{Path: "b", Gone: true, Line: "rm b"}, line("rm b"),
	}
}

func TestADayWithoutCuts(t *testing.T) {
	r, err := judge.Run(short()...)
	if err != nil {
		t.Fatal(err)
	}
	want := []string{"ok", "ok", "ok", "ok", "ok", "ok", "cmd -1: name", "ok", "ok", "do 7: conflict", "ok", "ok", "do 1: name"}
	if !slices.Equal(r.Told, want) || r.Cuts != 0 || r.Bad != 0 {
		t.Errorf("%q, %d cuts, %d bad", r.Told, r.Cuts, r.Bad)
	}
	told, s := judge.Model(short()...)
	if !slices.Equal(told, want) || !state.Same(s, r.State) {
		t.Errorf("%q\n%s\n%s", told, state.Text(s), state.Text(r.State))
	}
	if s.Time != 3 || s.Commits[1].Time != 3 || len(s.Commits) != 3 || s.Head.Branch != "dev" {
		t.Error(state.Text(s))
	}
	r, err = judge.Run()
	if err != nil || len(r.Told) != 0 || !state.Same(r.State, state.New()) {
		t.Errorf("of none: %v", err)
	}
	if told, s := judge.Model(); len(told) != 0 || !state.Same(s, state.New()) {
		t.Error("of none")
	}
}

func TestWhatADayLeavesOut(t *testing.T) {
	l := []judge.Item{
		{Ticks: -1}, {Ticks: 1001}, {Ticks: 1000}, edit(".recto", "x"), edit(".recto/state", "x"), {Path: ".recto/state", Gone: true}, edit(".recto/x/y", "x"), edit("A", "x"), {Path: "a", Mode: 7}, {Path: "none", Gone: true},
		edit("d/x", "1"), edit("d", "1"), edit("long", strings.Repeat("x", 4096)), line(""), line("add"), edit(".rectory", "x"),
	}
	r, err := judge.Run(l...)
	told, s := judge.Model(l...)
	if err != nil || !slices.Equal(r.Told, []string{"ok"}) || !slices.Equal(told, r.Told) || !state.Same(r.State, s) {
		t.Errorf("%q, %q, %v\n%s\n%s", r.Told, told, err, state.Text(r.State), state.Text(s))
	}
	if s.Time != 1000 || !slices.Equal(files.Paths(s.Work), []string{".rectory", "d/x", "long"}) {
		t.Error(state.Text(s))
	}
}

func TestADayWithCuts(t *testing.T) {
	tried := 0
	for n := 1; n < 30; n++ {
		for _, keep := range [][]bool{nil, {true, true, true, true, true, true, true, true}, {false, true, false, true, false, true}} {
			l := short()
			for i := range l {
				if l[i].Line == "merge main" || l[i].Line == "add a" {
					l[i].Arm, l[i].Keep = n, keep
				}
			}
			r, err := judge.Run(l...)
			if err != nil || r.Bad != 0 {
				t.Fatalf("cut at %d: %d bad, %v", n, r.Bad, err)
			}
			downs := 0
			for _, x := range r.Told {
				if x == "down" {
					downs++
				}
			}
			if downs != r.Cuts || len(r.Told) != 13 {
				t.Errorf("cut at %d: %d cuts, %q", n, r.Cuts, r.Told)
			}
			tried += r.Cuts
			if told, _ := judge.Model(l...); slices.Contains(told, "down") {
				t.Error("Model looks at Arm")
			}
		}
	}
	if tried < 20 {
		t.Errorf("%d cuts", tried)
	}
}

// dice makes days of anything; it knows how things stand, so that most of what is said makes sense.
type dice struct {
	*rand.Rand
	now state.State
}

func (d *dice) pick(l ...string) string { return l[d.Intn(len(l))] }

func (d *dice) path() string { return d.pick("a", "a", "b", "c", "d", "d/x", "e/y") }

func (d *dice) data() string {
	var b strings.Builder
	for range d.Intn(4) {
		b.WriteString(d.pick("1", "2", "3") + "\n")
	}
	return b.String() + d.pick("", "", "", "x")
}

func (d *dice) name() string { return d.pick("main", "dev", "b3") }

func (d *dice) number() string { return strconv.Itoa(1 + d.Intn(len(d.now.Commits)+d.Intn(8)/7)) }

func (d *dice) line() string {
	if d.now.Seq.Kind != "" && d.Intn(3) > 0 {
		return d.pick("add", "add", "continue", "continue", "continue", "skip", "abort", "commit hand", "undo")
	}
	switch d.Intn(20) {
	case 0, 1, 2:
		return "add"
	case 3, 4, 5:
		return "commit " + d.pick("one", "two", "three")
	case 6, 7:
		return d.pick("branch ", "branch ", "delete ") + d.name()
	case 8, 9:
		return "switch " + d.pick(d.name(), d.number()) + d.pick("", "", " -f")
	case 10, 11:
		return "merge " + d.name()
	case 12:
		return d.pick("pick ", "revert ") + d.number()
	case 13, 14:
		return d.pick("stash", "stash words", "pop 0", "apply 0", "shelve 0", "pop 1")
	case 15, 16:
		return "rebase " + d.number() + "\n" + d.steps()
	case 17:
		return d.pick("undo", "undo", "redo")
	case 18:
		return "reset " + d.pick("soft ", "mixed ", "hard ") + d.number()
	}
	return d.pick("rm "+d.path(), "rm "+d.path()+" -f", "add "+d.path(), "nope", "abort")
}

func (d *dice) steps() string {
	var b strings.Builder
	for i := range d.Intn(5) {
		verb := d.pick("pick", "edit", "squash", "fixup", "drop", "pick", "reword")
		if i == 0 && d.Intn(8) > 0 {
			verb = "pick"
		}
		b.WriteString(verb + " " + d.number())
		if verb == "reword" {
			b.WriteString(" anew")
		}
		b.WriteString("\n")
	}
	return b.String()
}

// fork is how a day begins: three branches that have changed the same files.
func fork() []judge.Item {
	return []judge.Item{
		edit("a", "1\n2\n3\n"), edit("b", "1\n"), line("add"), line("commit base"), line("branch dev"), line("branch b3"),
		edit("a", "1\n2\n1\n"), edit("c", "1\n"), line("add"), line("commit on main"),
		line("switch dev"), edit("a", "2\n2\n3\n"), edit("d/x", "x"), line("add"), line("commit on dev"),
		line("switch b3"), edit("a", "3\n2\n3\n"), {Path: "b", Gone: true}, line("add"), line("commit on b3"),
	}
}

// day makes a day of n items, and plays it on.
func (d *dice) day(n int) []judge.Item {
	l := fork()
	d.now = state.New()
	for _, x := range l {
		d.now, _, _ = played(d.now, x)
	}
	for range n {
		var x judge.Item
		if d.Intn(3) == 0 {
			x = judge.Item{Path: d.path(), Mode: 1 + d.Intn(8)/7, Data: d.data(), Gone: d.Intn(6) == 0}
		}
		if d.Intn(8) > 0 {
			x.Line = d.line()
		}
		x.Ticks = d.Intn(10) / 9
		l = append(l, x)
		d.now, _, _ = played(d.now, x)
	}
	return l
}

// played does an item on s; behind an edit it tells how things stood ahead of the line.
func played(s state.State, x judge.Item) (then, ahead state.State, err error) {
	if x.Path != "" {
		w, err := repo.Write(s, x.Path, x.Mode, x.Data)
		if x.Gone {
			w, err = repo.Remove(s, x.Path)
		}
		if err == nil {
			s = w
		}
	}
	c, err := cmd.Parse(x.Line)
	if err != nil {
		return s, s, err
	}
	then, err = repo.Do(s, c)
	return then, s, err
}

func TestAnyDayIsAsTheModelTells(t *testing.T) {
	d := &dice{Rand: rand.New(rand.NewSource(6))}
	seen := map[string]int{}
	whole := 0
	for range 100 {
		l := d.day(40)
		r, err := judge.Run(l...)
		told, s := judge.Model(l...)
		if err != nil || r.Cuts != 0 || r.Bad != 0 {
			t.Fatalf("%d cuts, %d bad, %v", r.Cuts, r.Bad, err)
		}
		if slices.Contains(r.Told, "client 1: long") {
			continue // more than a client's file has room for
		}
		whole++
		if !slices.Equal(r.Told, told) || !state.Same(r.State, s) {
			t.Fatalf("%q\n%q", r.Told, told)
		}
		for _, x := range told {
			seen[x]++
		}
	}
	if whole < 50 {
		t.Errorf("%d whole days", whole)
	}
	for _, x := range []string{"ok", "do 7: conflict", "do 8: conflict", "do 14: conflict", "do 15: conflict", "do 5: path 1: dirty", "do 11: conflict", "do 10: dirty", "do 7: path 1: dirty", "do 9: conflict", "do 12: conflict"} {
		if seen[x] == 0 {
			t.Errorf("no day tells %q: %v", x, seen)
		}
	}
}

func TestAnyCutIsWholeOrNot(t *testing.T) {
	d := &dice{Rand: rand.New(rand.NewSource(7))}
	cuts := 0
	for range 100 {
		l := d.day(40)
		for i := range l {
			l[i].Arm = d.Intn(16)
			for range d.Intn(10) {
				l[i].Keep = append(l[i].Keep, d.Intn(2) == 0)
			}
		}
		r, err := judge.Run(l...)
		if err != nil || r.Bad != 0 {
			t.Fatalf("%d bad, %v", r.Bad, err)
		}
		if err := state.Check(r.State); err != nil {
			t.Fatal(err)
		}
		cuts += r.Cuts
	}
	if cuts < 200 {
		t.Errorf("%d cuts", cuts)
	}
}

// TestNothingIsLost holds T5 and T6 on any day.
func TestNothingIsLost(t *testing.T) {
	d := &dice{Rand: rand.New(rand.NewSource(8))}
	for range 200 {
		now := state.New()
		for _, x := range d.day(60) {
			c, err := cmd.Parse(x.Line)
			if err != nil {
				now, _, _ = played(now, x)
				continue
			}
			then, s, err := played(now, x)
			if lost := judge.Kept(s, then, c); len(lost) > 0 {
				t.Fatalf("%q loses %q (%v)\n%s\n%s", x.Line, lost, err, state.Text(s), state.Text(then))
			}
			if wrong := state.Check(then); wrong != nil {
				t.Fatalf("%q: %v", x.Line, wrong)
			}
			checkUndo(t, s, then, c)
			now = then
		}
	}
}

func checkUndo(t *testing.T, s, then state.State, c cmd.Cmd) {
	t.Helper()
	if state.Same(s, then) || c.Verb == "undo" || c.Verb == "redo" {
		return
	}
	back, err := repo.Do(then, cmd.Cmd{Verb: "undo"})
	if err != nil || state.Mark(back.Now) != state.Mark(s.Now) {
		t.Fatalf("%q is not undone: %v", cmd.Text(c), err)
	}
	forth, err := repo.Do(back, cmd.Cmd{Verb: "redo"})
	if err != nil || !state.Same(forth, then) {
		t.Fatalf("%q is not redone: %v", cmd.Text(c), err)
	}
}

func TestKept(t *testing.T) {
	row := func(l ...string) files.Row {
		var r files.Row
		for _, x := range l {
			p, data, _ := strings.Cut(x, "=")
			r = append(r, files.File{Path: p, Mode: api.Plain, Data: data})
		}
		return r
	}
	a := state.State{Now: state.Now{Work: row("head=1", "mine=1", "new=n", "next=2", "other=o"), Index: index.Of(row("head=1", "mine=0", "next=2")), Head: names.Head{Branch: "main", Commit: 1}}}
	a.Commits = []state.Commit{{Tree: row("head=1", "mine=9", "next=1")}}
	a.Index = append(a.Index, index.Entry{Path: "other", Stage: 2, Mode: 1, Data: "o"})
	with := func(work files.Row, stash ...shelf.Shelf) state.State {
		return state.State{Now: state.Now{Work: work, Stash: stash}}
	}
	switchTo := cmd.Cmd{Verb: "switch", Name: "x"}
	for i, c := range []struct {
		b    state.State
		c    cmd.Cmd
		want string
	}{
		{a, switchTo, ""}, {with(nil), switchTo, "mine new other"}, {with(row("mine=2", "new=n", "other=o")), switchTo, "mine"}, {with(row("mine=<1>", "new=xn", "other=z")), switchTo, "other"},
		{with(nil, shelf.Shelf{}, shelf.Shelf{Work: row("mine=1", "new=m")}), switchTo, "new other"}, {with(nil, shelf.Shelf{Index: row("mine=1", "new=n", "other=o")}), switchTo, "mine new other"},
		{with(nil), cmd.Cmd{Verb: "add"}, ""}, {with(nil), cmd.Cmd{Verb: "rm", Name: "new"}, ""}, {with(nil), cmd.Cmd{Verb: "abort"}, ""}, {with(nil), cmd.Cmd{Verb: "reset", Name: "hard"}, ""}, {with(nil), cmd.Cmd{Verb: "reset", Name: "mixed"}, "mine new other"}, {with(nil), cmd.Cmd{Verb: "switch", Force: true}, ""},
	} {
		if got := strings.Join(judge.Kept(a, c.b, c.c), " "); got != c.want {
			t.Errorf("%d: %q, want %q", i, got, c.want)
		}
	}
	run := with(row("mine=1", "new=n", "other=o"))
	run.Work[0].Mode = api.Run
	if got := judge.Kept(a, run, switchTo); len(got) != 0 {
		t.Errorf("a mode is no bytes: %q", got)
	}
}
