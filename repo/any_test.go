package repo_test

import (
	"math/rand"
	"strconv"
	"testing"

	"recto/cmd"
	"recto/files"
	"recto/index"
	"recto/names"
	"recto/oplog"
	"recto/repo"
	"recto/shelf"
	"recto/state"
	"recto/todo"
)

// maker makes states and commands of anything.
type maker struct{ *rand.Rand }

func (m maker) pick(l ...string) string { return l[m.Intn(len(l))] }

func (m maker) path() string { return m.pick("a", "b", "a/b", "a/b/c", "", "A", "z") }

func (m maker) name() string { return m.pick("main", "dev", "x", "", "9") }

func (m maker) number() int { return m.Intn(9) - 2 }

func (m maker) row() files.Row {
	var r files.Row
	for range m.Intn(5) {
		r = append(r, files.File{Path: m.path(), Mode: m.number(), Data: m.pick("", "x\n", "y\n", "x\ny\n")})
	}
	return r
}

func (m maker) entries() []index.Entry {
	var l []index.Entry
	for range m.Intn(5) {
		l = append(l, index.Entry{Path: m.path(), Stage: m.number(), Mode: m.number(), Data: m.pick("", "x\n"), Time: m.number(), Size: m.number()})
	}
	return l
}

func (m maker) steps() []todo.Step {
	var l []todo.Step
	for range m.Intn(4) {
		l = append(l, todo.Step{Verb: m.pick("pick", "edit", "squash", "fixup", "drop", "reword", ""), Commit: m.number(), Text: m.pick("", "t")})
	}
	return l
}

func (m maker) head() names.Head { return names.Head{Branch: m.name(), Commit: m.number()} }

func (m maker) now() state.Now {
	n := state.Now{Work: m.row(), Index: m.entries(), Head: m.head(), Refs: []names.Ref{{Name: m.name(), Commit: m.number()}, {Name: m.name(), Commit: m.number()}}}
	if m.Intn(2) == 0 {
		n.Seq = state.Seq{Kind: m.pick("merge", "pick", "revert", "rebase", "else"), Other: m.number(), Doing: m.steps(), Todo: m.steps(), Made: m.number(), Branch: m.name(), Head: m.head(), Index: m.entries(), Work: m.row()}
	}
	if m.Intn(2) == 0 {
		n.Stash = shelf.Stack{{Base: m.number(), Index: m.row(), Work: m.row()}}
	}
	return n
}

func (m maker) state() state.State {
	s := state.State{Now: m.now(), Time: m.number(), Log: oplog.Log{Back: []string{"x", state.Mark(m.now())}, Forth: []string{m.pick("y", state.Mark(m.now()))}}}
	for range m.Intn(5) {
		c := state.Commit{Tree: m.row(), Time: m.number(), Text: m.pick("", "t")}
		for range m.Intn(4) {
			c.Parents = append(c.Parents, m.number())
		}
		s.Commits = append(s.Commits, c)
	}
	return s
}

func (m maker) cmd() cmd.Cmd {
	verbs := cmd.Verbs()
	return cmd.Cmd{Verb: m.pick(verbs...), Name: m.pick("main", "dev", "", "a", "soft", "hard", "mixed", "a/b"), N: m.number(), Text: m.pick("", "t"), Force: m.Intn(2) == 0, Todo: m.steps()}
}

func TestAnyStateEnds(t *testing.T) {
	m := maker{rand.New(rand.NewSource(5))}
	for i := range 20000 {
		s := m.state()
		ahead := string(state.Encode(s))
		got, _ := repo.Do(s, m.cmd())
		repo.Status(got)
		repo.Tick(s)
		repo.Write(s, m.path(), m.number(), strconv.Itoa(i))
		repo.Remove(s, m.path())
		if string(state.Encode(s)) != ahead {
			t.Fatal("what was handed in changed")
		}
	}
}
