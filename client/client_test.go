package client_test

import (
	"errors"
	"strconv"
	"strings"
	"testing"

	"recto/api"
	"recto/client"
	"recto/cmd"
	"recto/repo"
	"recto/simfs"
	"recto/state"
	"recto/status"
)

func wants(t *testing.T, what string, err error, want string) {
	t.Helper()
	got := ""
	if err != nil {
		got = err.Error()
		var f *api.Fault
		if !errors.As(err, &f) {
			t.Errorf("%s: no Fault: %v", what, err)
		}
	}
	if got != want {
		t.Errorf("%s: %q, want %q", what, got, want)
	}
}

func start(t *testing.T) (*simfs.FS, *client.Client) {
	t.Helper()
	f := simfs.New(0)
	c, err := client.Init(f)
	wants(t, "Init", err, "")
	return f, c
}

func stateOf(t *testing.T, c *client.Client) state.State {
	t.Helper()
	s, err := c.State()
	wants(t, "State", err, "")
	return s
}

func edit(t *testing.T, f *simfs.FS, p, data string) {
	t.Helper()
	if err := f.Edit(p, api.Plain, []byte(data)); err != api.OK {
		t.Fatalf("Edit(%q): %v", p, err)
	}
}

func say(t *testing.T, c *client.Client, line, want string) {
	t.Helper()
	wants(t, line, c.Say(line), want)
}

// same holds two states against each other.
func same(t *testing.T, what string, got, want state.State) {
	t.Helper()
	if !state.Same(got, want) {
		t.Errorf("%s:\n%s\nwant\n%s", what, state.Text(got), state.Text(want))
	}
}

func TestInit(t *testing.T) {
	f := simfs.New(0)
	edit(t, f, "a", "1")
	f.Edit("b/c", api.Run, []byte("2"))
	f.Tick()
	c, err := client.Init(f)
	wants(t, "Init", err, "")
	want := state.New()
	want, _ = repo.Write(want, "a", api.Plain, "1")
	want, _ = repo.Write(want, "b/c", api.Run, "2")
	want = repo.Tick(want)
	same(t, "at first", stateOf(t, c), want)
	l, err := c.Status()
	wants(t, "Status", err, "")
	if status.Text(l) != " ? a\n ? b/c\n" {
		t.Errorf("%v", l)
	}
	if err := state.Check(stateOf(t, c)); err != nil {
		t.Error(err)
	}
}

func TestInitRefuses(t *testing.T) {
	f, _ := start(t)
	c, err := client.Init(f)
	wants(t, "again", err, "client 0: twice")
	if c != nil {
		t.Error("a client beside an error")
	}
	for _, p := range []string{".recto", ".recto/x", ".recto/x/y"} {
		f := simfs.New(0)
		edit(t, f, p, "")
		_, err := client.Init(f)
		wants(t, p, err, "client 0: twice")
	}
	f = simfs.New(3)
	_, err = client.Init(f)
	wants(t, "no room", err, "client 0: quota")
	if l, _ := f.List(); len(l) != 0 {
		t.Errorf("%v", l)
	}
	f.Quota(0)
	f.Cut()
	_, err = client.Init(f)
	wants(t, "no power", err, "client 0: down")
}

func TestOpenRefuses(t *testing.T) {
	f := simfs.New(0)
	edit(t, f, "a", "")
	c, err := client.Open(f)
	wants(t, "nothing", err, "client 4: name")
	if c != nil {
		t.Error("a client beside an error")
	}
	edit(t, f, ".recto", "")
	_, err = client.Open(f)
	wants(t, "a file", err, "client 4: name")
	f.Cut()
	_, err = client.Open(f)
	wants(t, "no power", err, "client 4: down")
}

func TestOpenOfOtherFilesEnds(t *testing.T) {
	good, _ := start(t)
	b, err := good.Read(".recto/state")
	if err != api.OK {
		t.Fatal(err)
	}
	bad := state.New()
	bad.Head.Commit = 7
	for i, l := range []map[string]string{
		{".recto/x": ""}, {".recto/state": ""}, {".recto/state": string(b[1:])}, {".recto/state/x": string(b)}, {".recto/state": string(state.Encode(bad))}, {".recto/state": string(b), ".recto/j": ""}, {".recto/j/plan": "x"}, {".recto/j/new0": "x", ".recto/j/old0": ""},
	} {
		f := simfs.New(0)
		for p, d := range l {
			edit(t, f, p, d)
		}
		c, err := client.Open(f)
		if c != nil || err == nil || !strings.HasPrefix(err.Error(), "client 4: ") {
			t.Errorf("%d: %v", i, err)
		}
	}
}

// day is a day of lines, and of edits ("p=data", "-p", "+": a tick) ahead of them.
func day() []string {
	return []string{
		"a=1\n", "b=1\n", "add", "commit one", "branch dev", "+", "a=2\n", "add a", "commit two", "switch dev", "d/x=3", "add", "commit three", "+", "merge main", "a=4\n", "stash aside", "rm b",
		"commit four", "pop 0", "add", "commit five", "undo", "undo", "redo", "switch 1 -f", "a=z\n", "add", "commit six", "pick 2", "u=u", "abort", "merge main", "a=zz\n", "add", "continue", "-u",
		"rebase 2\npick 3\nedit 7\n", "continue", "revert 3", "reset hard 1", "nope", "commit", "shelve 0", "undo", "+", "d=file", "add", "commit seven", "switch main -f", "delete dev",
	}
}

// play does one thing of a day on the folder; false: it is a line.
func play(f *simfs.FS, x string) bool {
	switch p, data, isEdit := strings.Cut(x, "="); {
	case x == "+":
		f.Tick()
	case x[0] == '-':
		f.Unlink(x[1:])
	case isEdit:
		f.Edit(p, api.Plain, []byte(data))
	default:
		return false
	}
	return true
}

// would tells what repo makes of a line.
func would(s state.State, line string) (state.State, string) {
	x, err := cmd.Parse(line)
	if err == nil {
		s, err = repo.Do(s, x)
	}
	if err != nil {
		return s, err.Error()
	}
	return s, ""
}

func TestADayIsAsRepoTells(t *testing.T) {
	f, c := start(t)
	for _, x := range day() {
		if play(f, x) {
			continue
		}
		ahead := stateOf(t, c)
		want, told := would(ahead, x)
		say(t, c, x, told)
		same(t, x, stateOf(t, c), want)
		n := f.Ops()
		l, err := c.Status()
		wants(t, "Status", err, "")
		if status.Text(l) != status.Text(repo.Status(want)) || f.Ops() != n {
			t.Errorf("%q: Status %v", x, l)
		}
		again, err := client.Open(f.Twin())
		wants(t, "Open", err, "")
		same(t, "opened behind "+x, stateOf(t, again), want)
	}
	if s := stateOf(t, c); len(s.Commits) < 8 {
		t.Errorf("a day of little: %s", state.Text(s))
	}
}

func TestACutIsWholeOrNot(t *testing.T) {
	f, c := start(t)
	cuts := 0
	for _, x := range day() {
		if play(f, x) {
			continue
		}
		ahead := stateOf(t, c)
		then, _ := would(ahead, x)
		whole := f.Twin()
		w, err := client.Open(whole)
		wants(t, "Open", err, "")
		w.Say(x)
		for n := 1; n <= whole.Ops()-f.Ops(); n++ {
			for m := range 4 {
				g := f.Twin()
				g.Arm(n, keeps(m, n)...)
				d, err := client.Open(g)
				wants(t, "Open", err, "")
				say(t, d, x, "client 1: down")
				g.On()
				say(t, d, x, "client 1: down")
				checkOpened(t, g, ahead, then)
				checkCutOpen(t, g, ahead, then, m)
				cuts++
			}
		}
		c.Say(x)
	}
	if cuts < 200 {
		t.Errorf("%d cuts", cuts)
	}
}

// keeps tells a choice of what is kept: none, all, every second one.
func keeps(m, n int) []bool {
	var out []bool
	for i := range n {
		out = append(out, m == 1 || m == 2 && i%2 == 0 || m == 3 && i%2 == 1)
	}
	return out
}

func checkOpened(t *testing.T, f *simfs.FS, ahead, then state.State) {
	t.Helper()
	c, err := client.Open(f.Twin())
	wants(t, "Open behind a cut", err, "")
	s := stateOf(t, c)
	if !state.Same(s, ahead) && !state.Same(s, then) {
		t.Errorf("neither as ahead nor as behind:\n%s\nahead\n%s\nbehind\n%s", state.Text(s), state.Text(ahead), state.Text(then))
	}
}

func checkCutOpen(t *testing.T, f *simfs.FS, ahead, then state.State, m int) {
	t.Helper()
	for n := 1; ; n++ {
		g := f.Twin()
		g.Arm(n, keeps(m, n)...)
		c, err := client.Open(g)
		if err == nil {
			return
		}
		wants(t, "a cut Open", err, "client 4: down")
		if c != nil {
			t.Error("a client beside an error")
		}
		g.On()
		checkOpened(t, g, ahead, then)
	}
}

func TestEditsBehindACutAreKept(t *testing.T) {
	f, c := start(t)
	for _, x := range []string{"a=1", "b=1"} {
		play(f, x)
	}
	say(t, c, "add", "")
	say(t, c, "commit one", "")
	play(f, "a=2")
	play(f, "c=2")
	f.Unlink("b")
	say(t, c, "add", "")
	say(t, c, "commit two", "")
	ahead := stateOf(t, c)
	then, _ := would(ahead, "switch 1")
	for n := 1; ; n++ {
		g := f.Twin()
		g.Arm(n, true, false, true, false, true)
		d, _ := client.Open(g)
		if d.Say("switch 1") == nil {
			break
		}
		g.On()
		for _, p := range []string{"a", "b", "c", "u"} {
			for _, data := range []string{"1", "2", "mine"} {
				h := g.Twin()
				edit(t, h, p, data)
				e, err := client.Open(h)
				wants(t, "Open", err, "")
				s := stateOf(t, e)
				if x, _ := s.Work.Get(p); x.Data != data {
					t.Errorf("cut at %d: %s=%s is lost: %v", n, p, data, s.Work)
				}
				a, b := ahead, then
				s.Work, a.Work, b.Work = s.Work.Cut(p), a.Work.Cut(p), b.Work.Cut(p)
				if !state.Same(s, a) && !state.Same(s, b) {
					t.Errorf("cut at %d: the rest is not wholly: %s", n, state.Text(s))
				}
			}
		}
	}
}

func TestACutInitIsTriedAgain(t *testing.T) {
	for n := 1; ; n++ {
		for m := range 4 {
			f := simfs.New(0)
			edit(t, f, "a", "1")
			f.Arm(n, keeps(m, n)...)
			_, err := client.Init(f)
			if err == nil {
				if n == 1 {
					t.Error("no cut")
				}
				return
			}
			wants(t, "Init", err, "client 0: down")
			f.On()
			c, err := client.Open(f)
			if err != nil {
				wants(t, "Open", err, "client 4: name")
				c, err = client.Init(f)
				wants(t, "Init again", err, "")
			}
			s := stateOf(t, c)
			s.Work = nil
			same(t, "at first", s, state.New())
		}
	}
}

func TestDownLasts(t *testing.T) {
	f, c := start(t)
	f.Cut()
	_, err := c.Status()
	wants(t, "Status", err, "client 3: down")
	f.On()
	s, err := c.State()
	wants(t, "State", err, "client 2: down")
	if s.Head.Branch != "" {
		t.Error("a State beside an error")
	}
	l, err := c.Status()
	wants(t, "Status", err, "client 3: down")
	wants(t, "Do", c.Do(cmd.Cmd{Verb: "nope"}), "client 1: down")
	say(t, c, "nope", "cmd -1: name")
	if l != nil {
		t.Error("lines beside an error")
	}
	_, err = client.Open(f)
	wants(t, "Open", err, "")
}

func TestWhatIsTooMuch(t *testing.T) {
	f, c := start(t)
	for i := range 64 {
		edit(t, f, "f"+strconv.Itoa(i), "x")
	}
	say(t, c, "add f1", "")
	edit(t, f, "more", "")
	ahead := stateOf(t, c)
	if len(ahead.Work) != 65 {
		t.Error("State tells not all files")
	}
	say(t, c, "add f2", "client 1: long")
	say(t, c, "undo", "client 1: long")
	same(t, "refused", stateOf(t, c), ahead)
	f.Unlink("more")
	edit(t, f, "f3", strings.Repeat("x", 4097))
	say(t, c, "add f2", "client 1: long")
	edit(t, f, "f3", strings.Repeat("x", 4096))
	say(t, c, "add f2", "")
	for i := range 20 {
		edit(t, f, "f"+strconv.Itoa(i), strings.Repeat("y", 4000))
	}
	ahead = stateOf(t, c)
	n := f.Ops()
	say(t, c, "add", "client 1: long")
	say(t, c, "add none", "client 1: long")
	same(t, "refused", stateOf(t, c), ahead)
	if f.Ops() != n {
		t.Error("what is refused makes ops")
	}
}

func TestTheEncodedStateHasAnEnd(t *testing.T) {
	f, c := start(t)
	for i := 0; ; i++ {
		edit(t, f, "a", strconv.Itoa(i)+strings.Repeat("x", 2000))
		ahead := stateOf(t, c)
		then, told := would(ahead, "add")
		w, err := state.Weight(then)
		if err != nil || told != "" {
			t.Fatal(err, told)
		}
		if len(state.Encode(then)) > 65536 {
			if w <= 20000 {
				t.Errorf("of weight %d", w)
			}
			say(t, c, "add", "client 1: long")
			same(t, "refused", stateOf(t, c), ahead)
			return
		}
		say(t, c, "add", "")
	}
}

func TestTheQuota(t *testing.T) {
	f, c := start(t)
	for i := range 10 {
		edit(t, f, "f"+strconv.Itoa(i), strings.Repeat("x", 500))
	}
	f.Quota(f.Used() + 800000)
	say(t, c, "add", "")
	f.Quota(f.Used() + 800000)
	say(t, c, "commit x", "")
	f.Quota(f.Used() + 100)
	ahead := stateOf(t, c)
	say(t, c, "reset hard 1", "client 1: quota")
	say(t, c, "undo", "client 1: quota")
	same(t, "refused", stateOf(t, c), ahead)
	say(t, c, "commit x", "do 2: same")
	again, err := client.Open(f)
	wants(t, "Open", err, "")
	same(t, "opened", stateOf(t, again), ahead)
	f.Quota(0)
	say(t, c, "undo", "")
}

func TestStatusAsksNoTimes(t *testing.T) {
	f, c := start(t)
	edit(t, f, "a", "old")
	edit(t, f, "z", "zero")
	say(t, c, "add", "")
	edit(t, f, "a", "new")
	l, _ := c.Status()
	if status.Text(l) != "AM a\nA  z\n" {
		t.Errorf("in one tick: %v", l)
	}
	say(t, c, "commit one", "")
	edit(t, f, "a", "old")
	edit(t, f, "z", "")
	l, _ = c.Status()
	if status.Text(l) != " M z\n" {
		t.Errorf("to what it was: %v", l)
	}
	f.Edit("a", api.Run, []byte("old"))
	l, _ = c.Status()
	if status.Text(l) != " M a\n M z\n" {
		t.Errorf("the mode: %v", l)
	}
}

func TestNothingIsShared(t *testing.T) {
	f, c := start(t)
	edit(t, f, "a", "1")
	say(t, c, "add", "")
	say(t, c, "commit one", "")
	want := stateOf(t, c)
	s := stateOf(t, c)
	s.Commits[0].Tree[0].Path, s.Index[0].Path, s.Refs[0].Name, s.Log.Back[0], s.Work[0].Data = "z", "z", "z", "z", "z"
	same(t, "spoilt", stateOf(t, c), want)
}
