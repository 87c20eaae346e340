package repo_test

import (
	"errors"
	"reflect"
	"slices"
	"strconv"
	"strings"
	"testing"

	"recto/api"
	"recto/cmd"
	"recto/files"
	"recto/index"
	"recto/names"
	"recto/repo"
	"recto/state"
	"recto/status"
	"recto/todo"
)

// shop is a state, and what is said to it.
type shop struct {
	t *testing.T
	state.State
}

func open(t *testing.T) *shop { return &shop{t: t, State: state.New()} }

func (s *shop) twin() *shop { return &shop{t: s.t, State: s.State} }

// say does a line; want are the words of its error, or "".
func (s *shop) say(line, want string) {
	s.t.Helper()
	c, err := cmd.Parse(line)
	if err != nil {
		s.t.Fatalf("%q: %v", line, err)
	}
	s.do(c, want)
}

func (s *shop) do(c cmd.Cmd, want string) {
	s.t.Helper()
	ahead := state.Encode(s.State)
	got, err := repo.Do(s.State, c)
	told := ""
	if err != nil {
		told = err.Error()
		var f *api.Fault
		if !errors.As(err, &f) {
			s.t.Errorf("%q: no Fault: %v", cmd.Text(c), err)
		}
		told = strings.TrimPrefix(told, "do "+strconv.Itoa(slices.Index(cmd.Verbs(), c.Verb))+": ")
	}
	if told != want {
		s.t.Errorf("%q: %q, want %q", cmd.Text(c), told, want)
	}
	if string(state.Encode(s.State)) != string(ahead) {
		s.t.Errorf("%q: what was handed in changed", cmd.Text(c))
	}
	if err := state.Check(got); err != nil {
		s.t.Errorf("%q: %v", cmd.Text(c), err)
	}
	s.checkLog(c, got, told)
	s.State = got
}

// checkLog holds T6: what was done can be undone, and redone.
func (s *shop) checkLog(c cmd.Cmd, got state.State, told string) {
	s.t.Helper()
	if state.Same(got, s.State) || c.Verb == "undo" || c.Verb == "redo" {
		return
	}
	if n := len(got.Log.Back); n == 0 || got.Log.Back[n-1] != state.Mark(s.Now) || len(got.Log.Forth) != 0 {
		s.t.Errorf("%q: Log has not what was", cmd.Text(c))
	}
	back, err := repo.Do(got, cmd.Cmd{Verb: "undo"})
	if err != nil || state.Mark(back.Now) != state.Mark(s.Now) || len(back.Commits) != len(got.Commits) {
		s.t.Errorf("%q: undo: %v", cmd.Text(c), err)
	}
	forth, err := repo.Do(back, cmd.Cmd{Verb: "redo"})
	if err != nil || !state.Same(forth, got) {
		s.t.Errorf("%q: redo: %v", cmd.Text(c), err)
	}
}

func (s *shop) write(p, data string) {
	s.t.Helper()
	s.put(p, api.Plain, data)
}

func (s *shop) put(p string, mode int, data string) {
	s.t.Helper()
	got, err := repo.Write(s.State, p, mode, data)
	if err != nil {
		s.t.Fatalf("Write(%q): %v", p, err)
	}
	s.State = got
}

func (s *shop) remove(p string) {
	s.t.Helper()
	got, err := repo.Remove(s.State, p)
	if err != nil {
		s.t.Fatalf("Remove(%q): %v", p, err)
	}
	s.State = got
}

// save writes files "p=data" (none of data: it is removed), adds all, commits.
func (s *shop) save(text string, l ...string) {
	s.t.Helper()
	for _, x := range l {
		if p, data, there := strings.Cut(x, "="); there {
			s.write(p, data)
		} else {
			s.remove(p)
		}
	}
	s.say("add", "")
	s.say("commit "+text, "")
}

func shownRow(r files.Row) string {
	var out []string
	for _, f := range r {
		out = append(out, f.Path+"="+f.Data)
	}
	return strings.Join(out, " ")
}

// has holds the work, the status and Head against what they are to be.
func (s *shop) has(work, stat string, head names.Head) {
	s.t.Helper()
	if got := shownRow(s.Work); got != work {
		s.t.Errorf("work: %q, want %q", got, work)
	}
	if got := strings.ReplaceAll(strings.TrimSuffix(status.Text(repo.Status(s.State)), "\n"), "\n", ","); got != stat {
		s.t.Errorf("status: %q, want %q", got, stat)
	}
	if s.Head != head {
		s.t.Errorf("Head: %v, want %v", s.Head, head)
	}
}

func (s *shop) hasCommit(n int, tree, text string, parents ...int) {
	s.t.Helper()
	if n != len(s.Commits) {
		s.t.Fatalf("%d commits, want %d", len(s.Commits), n)
	}
	c := s.Commits[n-1]
	if shownRow(c.Tree) != tree || c.Text != text || !slices.Equal(c.Parents, parents) || c.Time != s.Time {
		s.t.Errorf("commit %d: %+v", n, c)
	}
}

func on(branch string, commit int) names.Head { return names.Head{Branch: branch, Commit: commit} }

func TestWriteRemoveTick(t *testing.T) {
	s := open(t)
	s.put("a/b", api.Run, "x")
	s.write("c", "")
	for i := range 62 {
		s.write("f"+strconv.Itoa(i), "")
	}
	for _, c := range []struct {
		p    string
		mode int
		data string
		want string
	}{
		{"A", 0, "", "file 0: name"}, {strings.Repeat("a", 65), 1, "", "file 0: long"}, {"x", 0, strings.Repeat("x", 4097), "file 0: arg"}, {"a", 1, strings.Repeat("x", 4097), "file 0: long"},
		{"a", 1, "", "file 0: way"}, {"c/d", 1, "", "file 0: way"}, {"new", 1, "", "file 0: long"}, {"c", 2, strings.Repeat("x", 4096), ""},
	} {
		got, err := repo.Write(s.State, c.p, c.mode, c.data)
		if c.want == "" {
			if f, there := got.Work.Get(c.p); err != nil || !there || f.Data != c.data || f.Mode != c.mode {
				t.Errorf("%q: %v", c.p, err)
			}
		} else if err == nil || err.Error() != c.want || !reflect.DeepEqual(got, state.State{}) {
			t.Errorf("%q: %v, want %s", c.p, err, c.want)
		}
	}
	got, err := repo.Remove(s.State, "none")
	if err == nil || err.Error() != "file 0: name" || !reflect.DeepEqual(got, state.State{}) {
		t.Errorf("%v", err)
	}
	s.remove("c")
	if _, there := s.Work.Get("c"); there || len(s.Log.Back) != 0 {
		t.Error("it is there")
	}
	if got := repo.Tick(s.State); got.Time != 1 || !state.Same(repo.Tick(s.State), got) || s.Time != 0 {
		t.Error("Tick")
	}
}

func TestCheckIsAskedFirst(t *testing.T) {
	s := open(t)
	s.write("a", "x")
	got, err := repo.Do(s.State, cmd.Cmd{Verb: "commit"})
	if err == nil || err.Error() != "cmd 2: arg" || !state.Same(got, s.State) {
		t.Errorf("%v", err)
	}
}

func TestAddAndRm(t *testing.T) {
	s := open(t)
	s.say("add", "same")
	s.say("add a", "name")
	s.put("a", api.Run, "1")
	s.write("b/c", "2")
	s.say("add a", "")
	s.say("add a", "same")
	s.has("a=1 b/c=2", "A  a, ? b/c", on("main", 0))
	s.say("rm none", "name")
	s.say("rm a", "dirty")
	s.say("add", "")
	s.say("commit one", "")
	s.has("a=1 b/c=2", "", on("main", 1))
	s.hasCommit(1, "a=1 b/c=2", "one")
	s.remove("a")
	s.write("b/c", "3")
	s.say("rm b/c", "dirty")
	s.twin().say("rm b/c -f", "")
	s.say("add b/c", "")
	s.say("rm b/c", "dirty")
	w := s.twin()
	w.say("rm b/c -f", "")
	w.has("", " D a,D  b/c", on("main", 1))
	s.say("rm a", "")
	s.say("add a", "name")
	s.has("b/c=3", "D  a,M  b/c", on("main", 1))
	s.remove("b/c")
	s.write("b", "file")
	s.say("add b", "")
	s.has("b=file", "D  a,A  b,D  b/c", on("main", 1))
	s.remove("b")
	s.write("b/x", "")
	s.say("add", "")
	s.has("b/x=", "D  a,D  b/c,A  b/x", on("main", 1))
}

func TestAddHasAnEnd(t *testing.T) {
	s := open(t)
	for i := range 5 {
		for k := range 60 {
			s.write("f"+strconv.Itoa(100*i+k), "")
			if i == 4 && k == 15 {
				break
			}
		}
		for _, f := range s.Work {
			if i < 4 {
				s.Index = index.Put(s.Index, index.Entry{Path: f.Path, Mode: 1})
				s.remove(f.Path)
			}
		}
	}
	if len(s.Index) != 240 || len(s.Work) != 16 {
		t.Fatal(len(s.Index), len(s.Work))
	}
	for _, f := range s.Work {
		s.say("add "+f.Path, "")
	}
	s.write("one-more", "")
	s.say("add one-more", "long")
	s.say("commit x", "long")
	s.Index = s.Index[:65]
	s.say("commit x", "long")
	s.say("add "+s.Index[0].Path, "")
	s.say("commit x", "")
}

func TestCommit(t *testing.T) {
	s := open(t)
	s.say("commit x", "same")
	s.write("a", "1")
	s.say("commit x", "same")
	s.say("add", "")
	s.State = repo.Tick(s.State)
	s.say("commit one", "")
	s.hasCommit(1, "a=1", "one")
	if !slices.Equal(s.Refs, []names.Ref{{Name: "main", Commit: 1}}) {
		t.Errorf("%v", s.Refs)
	}
	s.write("a", "2")
	s.say("commit x", "same")
	s.say("switch 1", "")
	s.say("add", "")
	s.say("commit two", "")
	s.hasCommit(2, "a=2", "two", 1)
	s.has("a=2", "", on("", 2))
	if !slices.Equal(s.Refs, []names.Ref{{Name: "main", Commit: 1}}) {
		t.Errorf("%v", s.Refs)
	}
}

func TestBranchAndDelete(t *testing.T) {
	s := open(t)
	s.say("branch b", "state")
	s.say("delete main", "name")
	s.save("one", "a=1")
	s.say("branch main", "twice")
	s.say("branch b", "")
	s.say("delete main", "state")
	s.say("delete none", "name")
	s.say("switch b", "")
	s.say("delete main", "")
	s.say("switch main", "name")
	for i := range 63 {
		s.say("branch c"+strconv.Itoa(i), "")
	}
	s.say("branch more", "long")
	s.say("branch c1", "twice")
	s.say("switch 1", "")
	s.Head = on("unborn", 0)
	s.write("n", "")
	s.say("add", "")
	s.say("commit x", "long")
	s.say("reset soft 1", "long")
	s.say("delete c1", "")
	s.say("commit x", "")
}

func TestSwitch(t *testing.T) {
	s := open(t)
	s.say("switch 1", "arg")
	s.say("switch main", "name")
	s.save("one", "a=1", "b=1")
	s.say("branch dev", "")
	s.save("two", "a=2", "c/d=2")
	s.write("b", "mine")
	s.say("switch dev", "")
	s.has("a=1 b=mine", " M b", on("dev", 1))
	s.say("switch 2", "")
	s.has("a=2 b=mine c/d=2", " M b", on("", 2))
	s.write("a", "mine")
	s.say("switch dev", "path 1: dirty")
	s.write("c/d", "mine too")
	s.say("switch dev", "path 2: dirty")
	w := s.twin()
	w.write("u", "untracked")
	w.say("switch dev -f", "")
	w.has("a=1 b=1 u=untracked", " ? u", on("dev", 1))
	w.write("c", "in the way")
	w.say("switch main", "path 1: dirty")
	w.say("switch main -f", "")
	w.has("a=2 b=1 c/d=2 u=untracked", " ? u", on("main", 2))
	w.say("switch 3", "arg")
	w.say("switch main", "")
	s.Index = index.Put(s.Index, index.Entry{Path: "z", Stage: 1, Mode: 1})
	s.say("switch 3", "arg")
	s.say("switch main", "conflict")
	s.say("switch main -f", "")
	s.has("a=2 b=1 c/d=2", "", on("main", 2))
}

func TestTheFolderHasAnEnd(t *testing.T) {
	s := open(t)
	s.save("empty", "a=1")
	s.say("branch dev", "")
	var l []string
	for i := range 40 {
		l = append(l, "f"+strconv.Itoa(i)+"=")
	}
	s.save("many", l...)
	s.say("switch dev", "")
	for i := range 24 {
		s.write("u"+strconv.Itoa(i), "")
	}
	s.say("switch main", "long")
	s.say("merge main", "long")
	s.say("switch main -f", "long")
	s.say("rebase 2\npick 1\n", "long")
	s.remove("u0")
	s.say("switch main", "")
	if len(s.Work) != 64 {
		t.Error(len(s.Work))
	}
}

func TestReset(t *testing.T) {
	s := open(t)
	s.save("one", "a=1", "b=1")
	s.save("two", "a=2", "c=2")
	s.write("b", "mine")
	s.write("u", "untracked")
	s.say("reset hard 3", "arg")
	soft, mixed, hard := s.twin(), s.twin(), s.twin()
	soft.say("add b", "")
	soft.say("reset soft 1", "")
	soft.has("a=2 b=mine c=2 u=untracked", "M  a,M  b,A  c, ? u", on("main", 1))
	mixed.say("add b", "")
	mixed.say("reset mixed 1", "")
	mixed.has("a=2 b=mine c=2 u=untracked", " M a, M b, ? c, ? u", on("main", 1))
	hard.say("reset hard 1", "")
	hard.has("a=1 b=1 u=untracked", " ? u", on("main", 1))
	if hard.Refs[0].Commit != 1 {
		t.Errorf("%v", hard.Refs)
	}
	s.say("switch 2", "")
	s.say("reset soft 1", "")
	if s.Head != on("", 1) || s.Refs[0].Commit != 2 {
		t.Errorf("%v, %v", s.Head, s.Refs)
	}
}

// fork: 1 a; main: 2 changes a's first line; dev: 3 changes its last line and adds d; other: 4 changes its first line otherwise.
func fork(t *testing.T) *shop {
	t.Helper()
	s := open(t)
	s.save("one", "a=1\n2\n3\n", "k=k")
	s.say("branch dev", "")
	s.say("branch other", "")
	s.save("two", "a=x\n2\n3\n")
	s.say("switch dev", "")
	s.save("three", "a=1\n2\ny\n", "d=d")
	s.say("switch other", "")
	s.save("four", "a=z\n2\n3\n")
	s.say("switch main", "")
	return s
}

func TestMerge(t *testing.T) {
	s := fork(t)
	s.say("merge none", "name")
	s.say("merge main", "same")
	w := s.twin()
	w.write("k", "mine")
	w.say("add k", "")
	w.say("merge dev", "dirty")
	w.say("merge main", "dirty")
	w = s.twin()
	w.write("d", "in the way")
	w.say("merge dev", "path 1: dirty")
	w.remove("d")
	w.write("k", "mine")
	w.say("merge dev", "")
	w.has("a=x\n2\ny\n d=d k=mine", " M k", on("main", 5))
	w.hasCommit(5, "a=x\n2\ny\n d=d k=k", "merge dev", 2, 3)
	w.say("merge dev", "same")
	w.say("switch dev", "")
	w.say("merge main", "")
	if w.Head != on("dev", 5) || len(w.Commits) != 5 {
		t.Errorf("no step forward: %v", w.Head)
	}
	w.say("switch 1", "")
	w.say("merge main", "")
	if w.Head != on("", 5) {
		t.Errorf("%v", w.Head)
	}
	u := open(t)
	u.State = s.State
	u.Head = on("unborn", 0)
	u.say("merge dev", "state")
	u.say("merge none", "name")
}

func TestMergeOfNoBase(t *testing.T) {
	s := open(t)
	s.save("one", "a=1\n")
	s.Head = on("new", 0)
	s.Index = nil
	s.save("root", "b=2\n")
	s.hasCommit(2, "a=1\n b=2\n", "root")
	s.save("three", "a=3\n")
	s.say("merge main", "conflict")
	s.has("a=<<<<<<< HEAD\n3\n=======\n1\n>>>>>>> main\n b=2\n", "UU a", on("new", 3))
}

func TestMergeStops(t *testing.T) {
	s := fork(t)
	ahead := state.Mark(s.Now)
	s.write("k", "mine")
	mine := state.Mark(s.Now)
	s.say("merge other", "conflict")
	marked := "<<<<<<< HEAD\nx\n=======\nz\n>>>>>>> other\n2\n3\n"
	s.has("a="+marked+" k=mine", "UU a, M k", on("main", 2))
	if s.Seq.Kind != "merge" || s.Seq.Other != 4 || s.Seq.Text != "merge other" || s.Seq.Head != on("main", 2) || !index.Same(s.Seq.Index, index.Of(s.Commits[1].Tree)) || shownRow(s.Seq.Work) != "a=x\n2\n3\n k=mine" || s.Seq.Made != 0 || s.Seq.Branch != "" || s.Seq.Todo != nil || s.Seq.Doing != nil {
		t.Errorf("%+v", s.Seq)
	}
	for _, line := range []string{"branch x", "delete dev", "switch dev", "switch dev -f", "reset hard 99", "merge dev", "pick 99", "revert 1", "stash", "pop 0", "apply 9", "shelve 0", "rebase 1\n", "skip"} {
		s.twin().say(line, "state")
	}
	s.say("commit x", "conflict")
	s.say("continue", "conflict")
	s.say("rm k", "dirty")
	s.say("rm a", "dirty")
	s.twin().say("rm a -f", "")
	w := s.twin()
	w.say("abort", "")
	if state.Mark(w.Now) != mine || mine == ahead {
		t.Error("an abort gives not back what was")
	}
	w.say("abort", "state")
	w.say("continue", "state")
	w.say("skip", "state")
	s.write("a", "x\nz\n2\n3\n")
	s.say("add a", "")
	w = s.twin()
	w.say("commit by hand", "")
	w.hasCommit(5, "a=x\nz\n2\n3\n k=k", "by hand", 2, 4)
	s.say("continue", "")
	s.hasCommit(5, "a=x\nz\n2\n3\n k=k", "merge other", 2, 4)
	s.has("a=x\nz\n2\n3\n k=mine", " M k", on("main", 5))
	if s.Seq.Kind != "" {
		t.Errorf("%+v", s.Seq)
	}
}

func TestMergeAsHeadIs(t *testing.T) {
	s := fork(t)
	s.say("merge other", "conflict")
	s.write("a", "x\n2\n3\n")
	s.say("add a", "")
	s.twin().say("commit as it was", "")
	s.say("continue", "")
	s.hasCommit(5, "a=x\n2\n3\n k=k", "merge other", 2, 4)
}

func TestMergeTellsWays(t *testing.T) {
	s := open(t)
	s.save("one", "a=1")
	s.say("branch dev", "")
	s.save("two", "n=1")
	s.say("switch dev", "")
	s.save("three", "n/m=1")
	s.say("merge main", "file 2: way")
	s.say("pick 2", "file 2: way")
	if s.Seq.Kind != "" || len(s.Commits) != 3 {
		t.Error("what is refused does something")
	}
}

func TestPickAndRevert(t *testing.T) {
	s := fork(t)
	s.say("pick 9", "arg")
	s.say("merge dev", "")
	s.say("pick 5", "arg")
	s.say("revert 5", "arg")
	s.say("pick 3", "same")
	s.say("pick 2", "same")
	s.say("revert 3", "")
	s.hasCommit(6, "a=x\n2\n3\n k=k", "revert three", 5)
	s.say("pick 3", "")
	s.hasCommit(7, "a=x\n2\ny\n d=d k=k", "three", 6)
	s.say("pick 4", "conflict")
	s.has("a=<<<<<<< HEAD\nx\n=======\nz\n>>>>>>> 4\n2\ny\n d=d k=k", "UU a", on("main", 7))
	if s.Seq.Kind != "pick" || s.Seq.Other != 4 || s.Seq.Text != "four" || s.Seq.Head != on("main", 7) {
		t.Errorf("%+v", s.Seq)
	}
	w := s.twin()
	w.say("skip", "")
	w.has("a=x\n2\ny\n d=d k=k", "", on("main", 7))
	if w.Seq.Kind != "" {
		t.Errorf("%+v", w.Seq)
	}
	w = s.twin()
	w.write("a", "x\n2\ny\n")
	w.say("add", "")
	w.twin().say("commit x", "same")
	w.say("continue", "")
	if len(w.Commits) != 7 || w.Seq.Kind != "" {
		t.Errorf("%+v", w.Seq)
	}
	s.write("a", "z\n2\ny\n")
	s.say("add", "")
	s.twin().say("commit own words", "")
	s.say("continue", "")
	s.hasCommit(8, "a=z\n2\ny\n d=d k=k", "four", 7)
	s.say("revert 1", "conflict")
	if s.Seq.Kind != "revert" || s.Seq.Other != 1 || s.Seq.Text != "revert one" {
		t.Errorf("%+v", s.Seq)
	}
	s.say("abort", "")
	s.has("a=z\n2\ny\n d=d k=k", "", on("main", 8))
	s.write("k", "next")
	s.say("add k", "")
	s.say("pick 1", "dirty")
	s.say("pick 99", "arg")
	s.Head = on("unborn", 0)
	s.say("pick 1", "state")
	s.say("pick 99", "arg")
}

func TestARootIsPickedAndALongTextCut(t *testing.T) {
	s := open(t)
	long := strings.Repeat("x", 256)
	s.save(long, "a=1")
	s.save("two", "b=1")
	s.say("revert 1", "")
	s.hasCommit(3, "b=1", "revert "+long[:249], 2)
	s.say("pick 1", "")
	s.hasCommit(4, "a=1 b=1", long, 3)
	s.write("a", "mine")
	s.say("revert 1", "path 1: dirty")
}

func TestStash(t *testing.T) {
	s := open(t)
	s.say("stash", "state")
	s.save("one", "a=1\n", "b=1\n", "c=1\n")
	s.write("u", "untracked")
	s.say("stash", "same")
	s.write("a", "2\n")
	s.write("n", "new")
	s.say("add a", "")
	s.say("add n", "")
	s.write("n", "newer")
	s.write("b", "2\n")
	s.remove("c")
	s.say("stash some words", "")
	s.has("a=1\n b=1\n c=1\n u=untracked", " ? u", on("main", 1))
	if got := s.Stash.Text(); got != "0: some words (1, 4/3)\n" {
		t.Errorf("%q", got)
	}
	if x := s.Stash[0]; shownRow(x.Index) != "a=2\n b=1\n c=1\n n=new" || shownRow(x.Work) != "a=2\n b=2\n n=newer" {
		t.Errorf("%+v", x)
	}
	s.say("pop 1", "arg")
	s.say("apply 1", "arg")
	s.say("shelve 1", "arg")
	w := s.twin()
	w.say("apply 0", "")
	w.has("a=2\n b=2\n n=newer u=untracked", " M a, M b, D c,A  n, ? u", on("main", 1))
	if len(w.Stash) != 1 {
		t.Error("apply drops")
	}
	w.say("apply 0", "dirty")
	w.say("shelve 0", "")
	if len(w.Stash) != 0 {
		t.Error("shelve drops not")
	}
	w = s.twin()
	w.write("b", "mine")
	w.say("pop 0", "path 1: dirty")
	w.say("add b", "")
	w.say("pop 0", "dirty")
	s.say("pop 0", "")
	s.has("a=2\n b=2\n n=newer u=untracked", " M a, M b, D c,A  n, ? u", on("main", 1))
	if len(s.Stash) != 0 {
		t.Error("pop drops not")
	}
}

func TestPopStops(t *testing.T) {
	s := open(t)
	s.save("one", "a=1\n", "b=1\n")
	s.write("a", "2\n")
	s.write("b", "2\n")
	s.say("stash", "")
	s.save("two", "a=3\n")
	for _, line := range []string{"pop 0", "apply 0"} {
		w := s.twin()
		w.say(line, "conflict")
		w.has("a=<<<<<<< HEAD\n3\n=======\n2\n>>>>>>> stash\n b=2\n", "UU a, M b", on("main", 2))
		if w.Seq.Kind != "" || len(w.Stash) != 1 {
			t.Errorf("%+v", w.Seq)
		}
		w.say("stash", "conflict")
	}
}

func TestStashRefuses(t *testing.T) {
	s := open(t)
	s.save("one", "d/x=1")
	s.remove("d/x")
	s.write("d", "untracked")
	s.say("stash", "dirty")
	s.say("add d", "")
	s.say("stash", "")
	s.has("d/x=1", "", on("main", 1))
	for i := range 15 {
		s.write("d/x", strconv.Itoa(100+i))
		s.say("stash", "")
	}
	s.say("stash", "same")
	s.write("d/x", "more")
	s.say("stash", "long")
}

func TestRebaseRefuses(t *testing.T) {
	s := fork(t)
	s.say("rebase 9\npick 9\n", "arg")
	s.say("rebase 1\npick 9\n", "arg")
	s.say("rebase 1\nfixup 2\n", "state")
	s.do(cmd.Cmd{Verb: "rebase", N: 1, Todo: []todo.Step{{Verb: "drop", Commit: 1}, {Verb: "squash", Commit: 2}}}, "state")
	w := s.twin()
	w.write("k", "mine")
	w.say("rebase 3\n", "dirty")
	w.say("add k", "")
	w.say("rebase 3\n", "dirty")
	w = s.twin()
	w.write("d", "in the way")
	w.say("rebase 3\npick 2\n", "path 1: dirty")
	w.Head = on("unborn", 0)
	w.say("rebase 3\npick 2\n", "state")
	w.say("rebase 3\npick 9\n", "arg")
	w = s.twin()
	w.say("merge dev", "")
	w.say("rebase 1\npick 5\n", "arg")
}

func TestRebase(t *testing.T) {
	s := fork(t)
	s.write("u", "untracked")
	s.State = repo.Tick(s.State)
	w := s.twin()
	w.say("rebase 3\n", "")
	w.has("a=1\n2\ny\n d=d k=k u=untracked", " ? u", on("main", 3))
	w = s.twin()
	w.say("rebase 3\npick 2\ndrop 4\n", "")
	w.has("a=x\n2\ny\n d=d k=k u=untracked", " ? u", on("main", 5))
	w.hasCommit(5, "a=x\n2\ny\n d=d k=k", "two", 3)
	if w.Seq.Kind != "" || w.Commits[4].Time != 1 {
		t.Errorf("%+v", w.Seq)
	}
	w = s.twin()
	w.say("switch 2", "")
	w.say("rebase 3\nreword 2 other words\n", "")
	w.hasCommit(5, "a=x\n2\ny\n d=d k=k", "other words", 3)
	if w.Head != on("", 5) || w.Refs[2].Commit != 4 || w.Refs[1].Commit != 2 {
		t.Errorf("%v, %v", w.Head, w.Refs)
	}
	w = s.twin()
	w.say("rebase 3\npick 3\nsquash 3\nfixup 3\n", "")
	if w.Head != on("main", 3) || len(w.Commits) != 4 {
		t.Errorf("what is as Head makes a commit: %v", w.Head)
	}
	w = s.twin()
	w.say("rebase 3\npick 3\nreword 3 not told\n", "")
	if w.Head != on("main", 3) || len(w.Commits) != 4 {
		t.Errorf("what is as Head makes a commit: %v", w.Head)
	}
}

// chain: 1 a; then 2 b, 3 c, 4 d, 5 e, each with a file of its own; main is at 1, top at 5.
func chain(t *testing.T) *shop {
	t.Helper()
	s := open(t)
	s.save("one", "a=1\n")
	s.say("branch top", "")
	s.say("switch top", "")
	for _, p := range []string{"b", "c", "d", "e"} {
		s.save("add "+p, p+"="+p)
	}
	s.say("switch main", "")
	s.save("six", "m=m")
	s.say("switch top", "")
	return s
}

func TestSquashAndFixup(t *testing.T) {
	s := chain(t)
	s.say("rebase 6\npick 2\nsquash 3\nfixup 4\npick 5\n", "")
	if len(s.Commits) != 10 {
		t.Fatal(len(s.Commits))
	}
	for n, want := range map[int]string{7: "add b 6", 8: "add b\nadd c 6", 9: "add b\nadd c 6", 10: "add e 9"} {
		c := s.Commits[n-1]
		if got := c.Text + " " + strconv.Itoa(c.Parents[0]); got != want || len(c.Parents) != 1 {
			t.Errorf("%d: %q, want %q", n, got, want)
		}
	}
	s.has("a=1\n b=b c=c d=d e=e m=m", "", on("top", 10))
	w := chain(t)
	w.say("rebase 6\npick 1\nsquash 3\nsquash 4\n", "")
	if len(w.Commits) != 8 || w.Commits[6].Text != "add c" || w.Commits[7].Text != "add c\nadd d" || w.Commits[7].Parents[0] != 6 {
		t.Errorf("%+v", w.Commits[6:])
	}
	w = chain(t)
	w.say("rebase 6\npick 2\nfixup 2\n", "")
	if len(w.Commits) != 8 || w.Commits[7].Text != "add b" || w.Head != on("top", 8) {
		t.Error("a fixup of nothing makes no commit anew")
	}
}

func TestALongSquashIsCut(t *testing.T) {
	s := open(t)
	long := strings.Repeat("x", 200)
	s.save("one", "a=1")
	s.save(long, "b=1")
	s.save(long, "c=1")
	s.say("rebase 1\npick 2\nsquash 3\n", "")
	s.hasCommit(5, "a=1 b=1 c=1", long+"\n"+long[:55], 1)
}

func TestEditStops(t *testing.T) {
	s := chain(t)
	s.say("rebase 6\nedit 2\npick 3\nedit 4\n", "")
	s.has("a=1\n b=b m=m", "", on("", 7))
	if s.Seq.Kind != "rebase" || s.Seq.Branch != "top" || s.Seq.Head != on("top", 5) || s.Seq.Made != 1 || len(s.Seq.Doing) != 0 || todo.Text(s.Seq.Todo) != "pick 3\nedit 4\n" || shownRow(s.Seq.Work) != "a=1\n b=b c=c d=d e=e" {
		t.Errorf("%+v", s.Seq)
	}
	s.write("b", "better")
	w := s.twin()
	w.say("add b", "")
	w.say("continue", "dirty")
	w.say("commit better", "")
	w.say("continue", "")
	w.has("a=1\n b=better c=c d=d m=m", "", on("", 10))
	if w.Seq.Kind != "rebase" || len(w.Seq.Todo) != 0 {
		t.Errorf("an edit at the end stops not: %+v", w.Seq)
	}
	w.say("continue", "")
	w.has("a=1\n b=better c=c d=d m=m", "", on("top", 10))
	if w.Seq.Kind != "" {
		t.Errorf("%+v", w.Seq)
	}
	x := s.twin()
	x.say("abort", "")
	x.has("a=1\n b=b c=c d=d e=e", "", on("top", 5))
	s.say("skip", "")
	s.has("a=1\n b=b d=d m=m", "", on("", 8))
	s.say("skip", "")
	s.has("a=1\n b=b d=d m=m", "", on("top", 8))
}

// standsAt holds where a rebase has stopped: detached, with nothing in Doing.
func (s *shop) standsAt(commit int, left string, made, commits int) {
	s.t.Helper()
	if s.Seq.Kind != "rebase" || len(s.Seq.Doing) != 0 || todo.Text(s.Seq.Todo) != left || s.Seq.Made != made || s.Head != on("", commit) || len(s.Commits) != commits {
		s.t.Errorf("%+v, %v, %d commits", s.Seq, s.Head, len(s.Commits))
	}
}

// ended holds where a rebase came to its end.
func (s *shop) ended(head names.Head, commits int) {
	s.t.Helper()
	if !reflect.DeepEqual(s.Seq, state.Seq{}) || s.Head != head || len(s.Commits) != commits {
		s.t.Errorf("%+v, %v, %d commits", s.Seq, s.Head, len(s.Commits))
	}
}

func TestEditThatMakesNoCommitStops(t *testing.T) {
	s := open(t)
	s.save("t", "a=")
	s.say("rebase 1\nedit 1\n", "")
	s.standsAt(1, "", 0, 1)
	if s.Seq.Branch != "main" || s.Seq.Head != on("main", 1) || shownRow(s.Seq.Work) != "a=" {
		t.Errorf("%+v", s.Seq)
	}
	s.twin().say("switch main", "state")
	for _, line := range []string{"continue", "skip", "abort"} {
		w := s.twin()
		w.say(line, "")
		w.ended(on("main", 1), 1)
		w.has("a=", "", on("main", 1))
	}
	w := s.twin()
	got, err := state.Decode(state.Encode(w.State))
	if err != nil || !state.Same(got, w.State) {
		t.Fatal(err)
	}
	w.State = got
	w.save("by hand", "b=")
	w.standsAt(2, "", 0, 2)
	w.say("continue", "")
	w.ended(on("main", 2), 2)
	s.say("undo", "")
	s.ended(on("main", 1), 1)
	s.say("redo", "")
	s.standsAt(1, "", 0, 1)
}

func TestEditThatMakesNoCommitKeepsWhatIsLeft(t *testing.T) {
	s := chain(t)
	s.say("rebase 1\nedit 1\nfixup 2\nedit 2\nedit 2\npick 3\n", "")
	s.standsAt(1, "fixup 2\nedit 2\nedit 2\npick 3\n", 0, 6)
	s.has("a=1\n", "", on("", 1))
	w := s.twin()
	w.write("a", "mine")
	w.say("add a", "")
	w.say("continue", "dirty")
	w.standsAt(1, "fixup 2\nedit 2\nedit 2\npick 3\n", 0, 6)
	w = s.twin()
	w.say("skip", "")
	w.hasCommit(7, "a=1\n b=b", "add b", 1)
	w.standsAt(7, "edit 2\npick 3\n", 1, 7)
	s.say("continue", "")
	s.hasCommit(7, "a=1\n b=b", "add b", 1)
	s.standsAt(7, "edit 2\npick 3\n", 1, 7)
	w = s.twin()
	w.say("skip", "")
	w.ended(on("top", 8), 8)
	s.say("continue", "")
	s.standsAt(7, "pick 3\n", 1, 7)
	s.say("continue", "")
	s.ended(on("top", 8), 8)
	s.has("a=1\n b=b c=c", "", on("top", 8))
}

// Of the verbs that make no commit of what is as Head, edit alone stops.
func TestOnlyEditStopsWithoutACommit(t *testing.T) {
	for _, line := range []string{"pick 1", "pick 1\nsquash 1", "pick 1\nfixup 1", "reword 1 x", "drop 1"} {
		s := open(t)
		s.save("t", "a=")
		s.say("rebase 1\n"+line+"\n", "")
		s.ended(on("main", 1), 1)
	}
}

// onto4 stops in a conflict of commit 2 and commit 4.
func onto4(t *testing.T, steps string) *shop {
	t.Helper()
	s := fork(t)
	s.say("rebase 4\n"+steps, "conflict")
	if len(s.Seq.Doing) != 1 {
		t.Fatalf("%+v", s.Seq)
	}
	return s
}

func TestEditDecidedAsHeadStops(t *testing.T) {
	s := onto4(t, "edit 2\npick 3\n")
	s.say("continue", "conflict")
	w := s.twin()
	s.write("a", "z\n2\n3\n")
	s.say("add a", "")
	s.say("continue", "")
	s.standsAt(4, "pick 3\n", 0, 4)
	s.say("continue", "")
	s.ended(on("main", 5), 5)
	w.write("a", "zx\n2\n3\n")
	w.say("add a", "")
	w.say("continue", "")
	w.standsAt(5, "pick 3\n", 1, 5)
	for _, step := range []string{"pick 2", "reword 2 x"} {
		s = onto4(t, step+"\n")
		s.write("a", "z\n2\n3\n")
		s.say("add a", "")
		s.say("continue", "")
		s.ended(on("main", 4), 4)
	}
}

func TestSkipComesToAnEditThatMakesNoCommit(t *testing.T) {
	s := onto4(t, "pick 2\nedit 4\npick 3\n")
	s.say("skip", "")
	s.standsAt(4, "pick 3\n", 0, 4)
	s.say("skip", "")
	s.ended(on("main", 4), 4)
	s = onto4(t, "edit 2\n")
	s.say("skip", "")
	s.ended(on("main", 4), 4)
}

func TestRebaseStopsAtConflicts(t *testing.T) {
	s := fork(t)
	s.say("rebase 4\npick 2\nreword 3 new words\n", "conflict")
	marked := "<<<<<<< HEAD\nz\n=======\nx\n>>>>>>> 2\n2\n3\n"
	s.has("a="+marked+" k=k", "UU a", on("", 4))
	if todo.Text(s.Seq.Doing) != "pick 2\n" || todo.Text(s.Seq.Todo) != "reword 3 new words\n" || s.Seq.Made != 0 {
		t.Errorf("%+v", s.Seq)
	}
	s.say("continue", "conflict")
	s.say("rebase 1\n", "state")
	w := s.twin()
	w.say("abort", "")
	w.has("a=x\n2\n3\n k=k", "", on("main", 2))
	w = s.twin()
	w.say("skip", "")
	w.has("a=z\n2\ny\n d=d k=k", "", on("main", 5))
	w.hasCommit(5, "a=z\n2\ny\n d=d k=k", "new words", 4)
	w = s.twin()
	w.write("a", "z\n2\n3\n")
	w.say("add", "")
	w.say("commit x", "state")
	w.say("continue", "")
	w.hasCommit(5, "a=z\n2\ny\n d=d k=k", "new words", 4)
	s.write("a", "zx\n2\n3\n")
	s.say("add", "")
	s.say("commit x", "state")
	s.say("continue", "")
	s.hasCommit(6, "a=zx\n2\ny\n d=d k=k", "new words", 5)
	if s.Commits[4].Text != "two" || s.Head != on("main", 6) || s.Seq.Kind != "" {
		t.Errorf("%+v", s.Commits[4])
	}
}

func TestRebaseStopsAtWhatWouldBeLost(t *testing.T) {
	s := chain(t)
	s.write("d", "d")
	s.say("rebase 6\nedit 2\npick 3\npick 4\n", "")
	s.write("c", "in the way")
	s.say("continue", "path 1: dirty")
	if todo.Text(s.Seq.Todo) != "pick 3\npick 4\n" || len(s.Seq.Doing) != 0 || s.Head != on("", 7) {
		t.Errorf("%+v", s.Seq)
	}
	s.has("a=1\n b=b c=in the way m=m", " ? c", on("", 7))
	s.remove("c")
	s.write("d/x", "in the way")
	s.say("continue", "path 1: dirty")
	if todo.Text(s.Seq.Todo) != "pick 4\n" || s.Head != on("", 8) {
		t.Errorf("%+v", s.Seq)
	}
	w := s.twin()
	w.say("skip", "")
	w.has("a=1\n b=b c=c d/x=in the way m=m", " ? d/x", on("top", 8))
	s.remove("d/x")
	s.say("continue", "")
	s.has("a=1\n b=b c=c d=d m=m", "", on("top", 9))
}

func TestRebaseStopsWhereTheFolderEnds(t *testing.T) {
	s := chain(t)
	for i := range 58 {
		s.write("u"+strconv.Itoa(10+i), "")
	}
	s.say("rebase 6\npick 2\npick 3\npick 4\npick 5\n", "")
	if len(s.Work) != 64 {
		t.Fatal(len(s.Work))
	}
	s = chain(t)
	for i := range 59 {
		s.write("u"+strconv.Itoa(10+i), "")
	}
	s.say("rebase 6\npick 2\npick 3\npick 4\npick 5\n", "long")
	if todo.Text(s.Seq.Todo) != "pick 5\n" || len(s.Work) != 64 || s.Seq.Made != 3 {
		t.Errorf("%+v, %d", s.Seq.Todo, len(s.Work))
	}
	s.remove("u10")
	s.say("continue", "")
}

func TestCommitsHaveAnEnd(t *testing.T) {
	s := fork(t)
	for len(s.Commits) < 1023 {
		s.Commits = append(s.Commits, state.Commit{Text: "filler"})
	}
	s.twin().say("rebase 3\npick 2\n", "")
	w := s.twin()
	w.say("rebase 1\npick 2\npick 3\npick 4\n", "long")
	if todo.Text(w.Seq.Todo) != "pick 3\npick 4\n" || w.Head != on("", 1024) || len(w.Commits) != 1024 {
		t.Errorf("%+v", w.Seq)
	}
	w.say("continue", "long")
	w.say("abort", "")
	s.say("rebase 4\npick 2\n", "conflict")
	s.write("a", "zx\n2\n3\n")
	s.say("add", "")
	s.Commits = append(s.Commits, state.Commit{})
	s.say("continue", "long")
	if len(s.Seq.Doing) != 1 {
		t.Errorf("%+v", s.Seq)
	}
	s.say("abort", "")
	for _, line := range []string{"merge dev", "pick 3", "revert 1"} {
		s.twin().say(line, map[string]string{"merge dev": "long", "pick 3": "long", "revert 1": "conflict"}[line])
	}
	s.write("k", "1")
	s.say("add", "")
	s.say("commit x", "long")
}

func TestUndoAndRedo(t *testing.T) {
	s := open(t)
	s.say("undo", "same")
	s.say("redo", "same")
	s.save("one", "a=1")
	s.write("a", "2")
	s.write("u", "u")
	s.say("undo", "")
	s.has("a=1", "A  a", on("main", 0))
	if len(s.Commits) != 1 || len(s.Refs) != 0 {
		t.Errorf("%v", s.Refs)
	}
	s.say("undo", "")
	s.has("a=1", " ? a", on("main", 0))
	s.say("undo", "same")
	s.say("redo", "")
	s.say("redo", "")
	s.has("a=2 u=u", " M a, ? u", on("main", 1))
	s.say("redo", "same")
	s.say("undo", "")
	s.say("branch b", "state")
	s.say("redo", "")
	s.say("undo", "")
	s.say("commit other", "")
	s.hasCommit(2, "a=1", "other")
	s.say("redo", "same")
	m := fork(t)
	m.say("merge other", "conflict")
	m.say("undo", "")
	m.has("a=x\n2\n3\n k=k", "", on("main", 2))
	m.say("redo", "")
	if m.Seq.Kind != "merge" {
		t.Errorf("%+v", m.Seq)
	}
	m.say("abort", "")
	m.say("undo", "")
	if m.Seq.Kind != "merge" {
		t.Errorf("%+v", m.Seq)
	}
}

func TestDestructive(t *testing.T) {
	for _, verb := range cmd.Verbs() {
		for _, force := range []bool{false, true} {
			for _, name := range []string{"", "soft", "mixed", "hard"} {
				want := slices.Contains([]string{"abort", "skip", "undo", "redo"}, verb) || force && (verb == "switch" || verb == "rm") || verb == "reset" && name == "hard"
				if repo.Destructive(cmd.Cmd{Verb: verb, Name: name, Force: force}) != want {
					t.Errorf("%s %s %v", verb, name, force)
				}
			}
		}
	}
}

func TestNothingIsShared(t *testing.T) {
	s := fork(t)
	s.write("k", "2")
	s.say("stash", "")
	s.say("merge other", "conflict")
	for _, line := range []string{"add a", "abort", "undo", "branch x"} {
		c, _ := cmd.Parse(line)
		ahead := string(state.Encode(s.State))
		got, _ := repo.Do(s.State, c)
		spoil(&got)
		if string(state.Encode(s.State)) != ahead {
			t.Errorf("%q: an answer shares memory", line)
		}
	}
	steps := []todo.Step{{Verb: "edit", Commit: 2}, {Verb: "pick", Commit: 3}}
	got, err := repo.Do(fork(t).State, cmd.Cmd{Verb: "rebase", N: 4, Todo: steps})
	if err == nil || len(got.Seq.Todo) != 1 {
		t.Fatal(err)
	}
	got.Seq.Todo[0].Verb, got.Seq.Doing[0].Verb = "x", "x"
	if steps[1].Verb != "pick" || steps[0].Verb != "edit" {
		t.Error("what was handed in is kept")
	}
}

// spoil writes into all lists of s.
func spoil(s *state.State) {
	rows := []files.Row{s.Work, s.Seq.Work}
	for _, c := range s.Commits {
		rows = append(rows, c.Tree)
		for i := range c.Parents {
			c.Parents[i] = 99
		}
	}
	for _, x := range s.Stash {
		rows = append(rows, x.Index, x.Work)
	}
	for _, r := range rows {
		for i := range r {
			if r[i].Path == "spoilt" {
				panic("two lists share memory")
			}
			r[i].Path = "spoilt"
		}
	}
	for _, l := range [][]index.Entry{s.Index, s.Seq.Index} {
		for i := range l {
			l[i].Path = "spoilt"
		}
	}
	for i := range s.Refs {
		s.Refs[i].Name = "spoilt"
	}
	for i := range s.Log.Back {
		s.Log.Back[i] = "spoilt"
	}
}
