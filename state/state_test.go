package state_test

import (
	"bytes"
	"errors"
	"math"
	"reflect"
	"slices"
	"strconv"
	"strings"
	"testing"

	"recto/api"
	"recto/codec"
	"recto/files"
	"recto/graph"
	"recto/index"
	"recto/names"
	"recto/oplog"
	"recto/seal"
	"recto/shelf"
	"recto/state"
	"recto/todo"
)

func row(l ...string) files.Row {
	var r files.Row
	for _, p := range l {
		r = append(r, files.File{Path: p, Mode: api.Plain, Data: p + p})
	}
	return r
}

// someNow has something everywhere.
func someNow() state.Now {
	ix := []index.Entry{{Path: "a", Mode: 1, Data: "x", Time: 3, Size: 4}, {Path: "b", Stage: 2, Mode: 2, Data: "y"}}
	return state.Now{
		Work: row("a", "b"), Index: ix, Refs: []names.Ref{{Name: "dev", Commit: 1}, {Name: "main", Commit: 2}}, Head: names.Head{Branch: "main", Commit: 2},
		Seq: state.Seq{
			Kind: "rebase", Other: 2, Text: "t", Doing: []todo.Step{{Verb: "pick", Commit: 1, Text: "x"}}, Todo: []todo.Step{{Verb: "drop", Commit: 2}}, Made: 1, Branch: "dev",
			Head: names.Head{Branch: "dev", Commit: 1}, Index: slices.Clone(ix[:1]), Work: row("c"),
		},
		Stash: shelf.Stack{{Base: 1, Index: row("a"), Work: row("b"), Text: "s"}},
	}
}

func some() state.State {
	return state.State{
		Now: someNow(), Commits: []state.Commit{{Tree: row("a"), Time: 1, Text: "one"}, {Tree: row("a", "b"), Parents: []int{1}, Time: 2, Text: "two"}},
		Log: oplog.Log{Back: []string{state.Mark(state.New().Now), "no mark"}, Forth: []string{state.Mark(someNow())}}, Time: 5,
	}
}

// changes tells a change of each part of a Now, one at a time.
func changes() []func(n *state.Now) {
	return []func(n *state.Now){
		func(n *state.Now) { n.Work[0].Path = "z" }, func(n *state.Now) { n.Work[1].Mode = 2 }, func(n *state.Now) { n.Work[0].Data = "" }, func(n *state.Now) { n.Work = n.Work[:1] },
		func(n *state.Now) { n.Index[0].Path = "z" }, func(n *state.Now) { n.Index[1].Stage = 3 }, func(n *state.Now) { n.Index[0].Mode = 2 }, func(n *state.Now) { n.Index[0].Data = "" },
		func(n *state.Now) { n.Refs[0].Name = "x" }, func(n *state.Now) { n.Refs[0].Commit = 2 }, func(n *state.Now) { n.Head.Branch = "" }, func(n *state.Now) { n.Head.Commit = -9 },
		func(n *state.Now) { n.Seq.Kind = "" }, func(n *state.Now) { n.Seq.Other = 0 }, func(n *state.Now) { n.Seq.Text = "" }, func(n *state.Now) { n.Seq.Doing[0].Verb = "x" }, func(n *state.Now) { n.Seq.Doing[0].Text = "" }, func(n *state.Now) { n.Seq.Doing, n.Seq.Todo = n.Seq.Todo, n.Seq.Doing },
		func(n *state.Now) { n.Seq.Todo[0].Commit = 3 }, func(n *state.Now) { n.Seq.Made = 2 }, func(n *state.Now) { n.Seq.Branch = "" }, func(n *state.Now) { n.Seq.Head.Branch = "" }, func(n *state.Now) { n.Seq.Head.Commit = 2 }, func(n *state.Now) { n.Seq.Index[0].Data = "" }, func(n *state.Now) { n.Seq.Work = nil },
		func(n *state.Now) { n.Stash[0].Base = 2 }, func(n *state.Now) { n.Stash[0].Index = nil }, func(n *state.Now) { n.Stash[0].Work[0].Mode = 2 }, func(n *state.Now) { n.Stash[0].Text = "" }, func(n *state.Now) { n.Stash = nil },
	}
}

// timesOnly tells changes that Mark tells and Same does not.
func timesOnly() []func(n *state.Now) {
	return []func(n *state.Now){
		func(n *state.Now) { n.Index[0].Time = 9 }, func(n *state.Now) { n.Index[1].Size = 9 }, func(n *state.Now) { n.Seq.Index[0].Time = math.MaxInt }, func(n *state.Now) { n.Seq.Index[0].Size = 0 },
	}
}

func TestNewGraphTree(t *testing.T) {
	s := state.New()
	if !reflect.DeepEqual(s, state.State{Now: state.Now{Head: names.Head{Branch: "main"}}}) || state.Check(s) != nil {
		t.Errorf("%+v", s)
	}
	s = some()
	g := state.Graph(s)
	if !reflect.DeepEqual(g, graph.Graph{nil, {1}}) {
		t.Errorf("%v", g)
	}
	g[1][0] = 9
	tree := state.Tree(s, 2)
	if !tree.Same(row("a", "b")) {
		t.Errorf("%v", tree)
	}
	tree[0].Path = "z"
	if s.Commits[1].Parents[0] != 1 || !state.Tree(s, 2).Same(row("a", "b")) {
		t.Error("an answer shares memory")
	}
	for _, c := range []int{0, -1, 3, math.MaxInt} {
		if len(state.Tree(s, c)) != 0 {
			t.Errorf("Tree of %d", c)
		}
	}
}

func TestMarkAndUnmark(t *testing.T) {
	seen := map[string]int{state.Mark(someNow()): -1, state.Mark(state.Now{}): -1}
	for i, change := range slices.Concat(changes(), timesOnly()) {
		n := someNow()
		change(&n)
		s := state.Mark(n)
		if other, again := seen[s]; again {
			t.Errorf("%d and %d are marked alike", i, other)
		}
		seen[s] = i
		back, err := state.Unmark(s)
		if err != nil || state.Mark(back) != s {
			t.Errorf("%d: %v", i, err)
		}
	}
	back, err := state.Unmark(state.Mark(someNow()))
	if err != nil || !reflect.DeepEqual(back, someNow()) {
		t.Errorf("%+v, %v", back, err)
	}
	empty := state.Now{Work: files.Row{}, Index: []index.Entry{}, Refs: []names.Ref{}, Stash: shelf.Stack{}, Seq: state.Seq{Doing: []todo.Step{}, Todo: []todo.Step{}, Index: []index.Entry{}, Work: files.Row{}}}
	if state.Mark(empty) != state.Mark(state.Now{}) {
		t.Error("nil and empty are unlike")
	}
}

func TestUnmarkOfAnyEnds(t *testing.T) {
	s := state.Mark(someNow())
	for i := range len(s) {
		for _, bad := range []string{s[:i], s[:i] + "\xff\xff\xff\xff\xff\xff\xff\xff\x7f" + s[i:], s[:i] + "\x01" + s[i+1:], s + s[:i+1], s[:i] + string([]byte{s[i] ^ 128}) + s[i+1:]} {
			n, err := state.Unmark(bad)
			if err == nil && state.Mark(n) != bad || err != nil && !reflect.DeepEqual(n, state.Now{}) {
				t.Errorf("%q: %+v, %v", bad, n, err)
			}
		}
	}
	none := state.Mark(state.New().Now)
	for _, bad := range []string{"\x01" + none[1:], none[:1] + "\x01" + none[2:], none[:len(none)-1] + "\x01", "", "no mark", s + "x", s[:len(s)-1], "\x01" + s[1:]} {
		if _, err := state.Unmark(bad); err == nil {
			t.Errorf("%q is taken", bad)
		}
	}
}

func TestEncodeAndDecode(t *testing.T) {
	for _, s := range []state.State{{}, state.New(), some()} {
		b := state.Encode(s)
		back, err := state.Decode(b)
		if err != nil || !bytes.Equal(state.Encode(back), b) || !reflect.DeepEqual(back, s) {
			t.Errorf("%+v, %v", back, err)
		}
	}
	b := state.Encode(some())
	for i := range b {
		bad := bytes.Clone(b)
		bad[i] ^= 4
		for _, x := range [][]byte{bad, b[:i], seal.Put(bad[:len(bad)-4]), seal.Put(b[:i])} {
			s, err := state.Decode(x)
			if err == nil && !bytes.Equal(state.Encode(s), x) || err != nil && !reflect.DeepEqual(s, state.State{}) {
				t.Errorf("%d: %+v, %v", i, s, err)
			}
		}
		if _, err := state.Decode(bad); err == nil {
			t.Errorf("byte %d changed", i)
		}
	}
	var below codec.Enc
	below.Int(-1)
	if _, err := state.Decode(seal.Put(below.Bytes())); err == nil {
		t.Error("a count below 0 is taken")
	}
}

func TestSame(t *testing.T) {
	if !state.Same(some(), some()) {
		t.Error("not Same as itself")
	}
	for i, change := range changes() {
		s, logged := some(), some()
		change(&s.Now)
		n := someNow()
		change(&n)
		logged.Log.Forth[0] = state.Mark(n)
		if state.Same(s, some()) || state.Same(logged, some()) || state.Same(some(), s) {
			t.Errorf("%d", i)
		}
	}
	for i, change := range timesOnly() {
		s := some()
		change(&s.Now)
		n := someNow()
		change(&n)
		s.Log.Forth[0] = state.Mark(n)
		ahead := string(state.Encode(s))
		if !state.Same(s, some()) || !state.Same(some(), s) {
			t.Errorf("%d: times are asked", i)
		}
		if string(state.Encode(s)) != ahead {
			t.Errorf("%d: what was handed in changed", i)
		}
		if state.Mark(n) == state.Mark(someNow()) {
			t.Errorf("%d: what was handed in changed", i)
		}
	}
	for i, change := range []func(s *state.State){
		func(s *state.State) { s.Time = 6 }, func(s *state.State) { s.Commits[0].Text = "" }, func(s *state.State) { s.Commits[0].Time = 0 }, func(s *state.State) { s.Commits[1].Parents = nil }, func(s *state.State) { s.Commits[1].Tree[0].Data = "" }, func(s *state.State) { s.Commits = s.Commits[:1] },
		func(s *state.State) { s.Log.Back[1] = "other" }, func(s *state.State) { s.Log.Back = s.Log.Back[:1] }, func(s *state.State) { s.Log.Back, s.Log.Forth = s.Log.Forth, s.Log.Back }, func(s *state.State) { s.Log.Forth[0] = "no mark" },
	} {
		s := some()
		change(&s)
		if state.Same(s, some()) {
			t.Errorf("%d", i)
		}
	}
}

func TestCheck(t *testing.T) {
	long := strings.Repeat("x", 257)
	for i, c := range []struct {
		change func(s *state.State)
		want   string
	}{
		{func(s *state.State) {}, ""}, {func(s *state.State) { s.Log.Back[0] = "x"; s.Seq = state.Seq{Kind: "x", Made: -1} }, ""},
		{func(s *state.State) { s.Work[1].Path = "A"; s.Index = append(s.Index, s.Index[0]) }, "state 0: file 1: name"},
		{func(s *state.State) { s.Index[1].Stage = 7; s.Refs[0].Name = "" }, "state 1: entry 1: arg"},
		{func(s *state.State) { s.Refs[0].Name = "9" }, "state 2: name"}, {func(s *state.State) { s.Refs[1].Name = "dev" }, "state 2: twice"}, {func(s *state.State) { s.Refs[0].Name = "z" }, "state 2: twice"}, {func(s *state.State) { s.Refs[0].Commit = 0 }, "state 2: arg"}, {func(s *state.State) { s.Refs[1].Commit = 3 }, "state 2: arg"},
		{func(s *state.State) { s.Head.Branch = "A" }, "state 3: name"}, {func(s *state.State) { s.Head.Commit = 1 }, "state 3: arg"}, {func(s *state.State) { s.Head.Branch = "new" }, "state 3: arg"}, {func(s *state.State) { s.Head = names.Head{Branch: "new"} }, ""}, {func(s *state.State) { s.Head = names.Head{Commit: 1} }, ""}, {func(s *state.State) { s.Head = names.Head{} }, "state 3: arg"}, {func(s *state.State) { s.Head = names.Head{Commit: 3} }, "state 3: arg"},
		{func(s *state.State) { s.Commits[1].Parents = []int{2}; s.Commits[0].Time = -1 }, "state 4: arg"}, {func(s *state.State) { s.Commits[1].Tree[0].Path = ""; s.Commits[1].Time = -1 }, "state 4: file 0: name"}, {func(s *state.State) { s.Commits[1].Time = -1; s.Commits[1].Text = long }, "state 4: arg"}, {func(s *state.State) { s.Commits[0].Text = long; s.Commits[1].Time = -1 }, "state 4: long"}, {func(s *state.State) { s.Commits = make([]state.Commit, 1025) }, "state 4: long"}, {func(s *state.State) { s.Commits = append(s.Commits, state.Commit{Parents: []int{1, 1}}) }, "state 4: twice"},
		{func(s *state.State) { s.Commits[0].Time = 0; s.Commits[1].Text = long[:256] }, ""}, {func(s *state.State) { s.Stash[0].Base = 0 }, "state 5: arg"}, {func(s *state.State) { s.Stash[0].Base = 3 }, "state 5: arg"}, {func(s *state.State) { s.Stash[0].Index[0].Mode = 0; s.Stash[0].Work[0].Path = "" }, "state 5: file 0: arg"}, {func(s *state.State) { s.Stash[0].Work[0].Path = ""; s.Time = -1 }, "state 5: file 0: name"},
		{func(s *state.State) { s.Time = -1 }, "state 6: arg"},
	} {
		s := some()
		c.change(&s)
		err := state.Check(s)
		var f *api.Fault
		if c.want == "" && err != nil || c.want != "" && (!errors.As(err, &f) || f.Part != "state" || err.Error() != c.want) {
			t.Errorf("%d: %v, want %q", i, err, c.want)
		}
	}
}

func TestWeight(t *testing.T) {
	s := state.State{}
	weigh := func(what string, want int) {
		t.Helper()
		if got, err := state.Weight(s); got != want || err != nil {
			t.Errorf("%s: %d, %v, want %d", what, got, err, want)
		}
	}
	weigh("nothing", 0)
	s.Now = someNow()
	rowA, entry := 16+1+2, 16+1+1
	now := 2*rowA + 2*entry + (16 + 3) + (16 + 4) + 4 + (6 + 1 + 3 + 3) + (16 + 4 + 1) + (16 + 4) + entry + rowA + (16 + 2*rowA + 1)
	weigh("Now", now)
	s.Commits = some().Commits
	commits := (16 + rowA + 3) + (16 + 2*rowA + 3)
	weigh("Commits", now+commits)
	s.Log.Back = []string{state.Mark(someNow()), state.Mark(state.New().Now)}
	s.Log.Forth = []string{state.Mark(state.Now{})}
	weigh("Log", now+commits+16+now+16+4+16)
	s.Log.Forth = append(s.Log.Forth, "no mark")
	_, want := state.Unmark("no mark")
	if got, err := state.Weight(s); got != 0 || err == nil || err.Error() != want.Error() {
		t.Errorf("%d, %v", got, err)
	}
}

func TestALightStateIsShort(t *testing.T) {
	s := state.New()
	for i := range 64 {
		s.Commits = append(s.Commits, state.Commit{Parents: []int{i, i}, Time: 1 << 40, Text: ""})
		s.Refs = append(s.Refs, names.Ref{Name: "b" + strconv.Itoa(i), Commit: 1024})
		s.Work = append(s.Work, files.File{Path: "f" + strconv.Itoa(i), Mode: 2})
		s.Index = append(s.Index, index.Entry{Path: "f" + strconv.Itoa(i), Stage: 3, Mode: 2})
	}
	for range 60 {
		s.Log = s.Log.Do(state.Mark(state.New().Now))
	}
	w, err := state.Weight(s)
	if err != nil || len(state.Encode(s)) > 65536*w/20000 {
		t.Errorf("%d bytes of weight %d, %v", len(state.Encode(s)), w, err)
	}
}

func TestText(t *testing.T) {
	if got := state.Text(state.New()); got != "head main\nundo 0 redo 0\n" {
		t.Errorf("%q", got)
	}
	s := some()
	s.Commits = append(s.Commits, state.Commit{Parents: []int{2, 1}, Text: "three"})
	want := "head main\nref dev 1\nref main 2\nseq rebase\nwork a 1 2\nwork b 1 2\nindex a 0 1 1\nindex b 2 2 1\ncommit 1: : 1: one\ncommit 2: 1: 2: two\ncommit 3: 2 1: 0: three\nstash 0\nundo 2 redo 1\n"
	if got := state.Text(s); got != want {
		t.Errorf("%q", got)
	}
	s = state.State{Now: state.Now{Head: names.Head{Commit: 7}}}
	if got := state.Text(s); got != "head #7\nundo 0 redo 0\n" {
		t.Errorf("%q", got)
	}
}

func FuzzUnmark(f *testing.F) {
	f.Add(state.Mark(someNow()))
	f.Fuzz(func(t *testing.T, s string) {
		if n, err := state.Unmark(s); err == nil && state.Mark(n) != s {
			t.Errorf("%q", s)
		}
	})
}
