package state

import (
	"slices"
	"strings"

	"recto/api"
	"recto/files"
	"recto/index"
	"recto/names"
	"recto/todo"
)

// The parts of a state, as Check tells them.
const (
	partWork = iota
	partIndex
	partRefs
	partHead
	partCommits
	partStash
	partTime
)

// Check tells what is wrong with s first.
func Check(s State) error {
	for part := partWork; part <= partTime; part++ {
		if err := s.wrong(part); err != nil {
			return &api.Fault{Part: "state", At: part, Err: err}
		}
	}
	return nil
}

func (s State) wrong(part int) error {
	switch part {
	case partWork:
		return s.Work.Check()
	case partIndex:
		return index.Check(s.Index)
	case partRefs:
		return asError(s.wrongRefs())
	case partHead:
		return asError(s.wrongHead())
	case partCommits:
		return s.wrongCommits()
	case partStash:
		return s.wrongStash()
	case partTime:
		if s.Time < 0 {
			return api.ErrArg
		}
	}
	return nil
}

func asError(err api.Errno) error {
	if err == api.OK {
		return nil
	}
	return err
}

func (s State) wrongRefs() api.Errno {
	for i, r := range s.Refs {
		switch {
		case !names.Good(r.Name):
			return api.ErrName
		case i > 0 && strings.Compare(s.Refs[i-1].Name, r.Name) >= 0:
			return api.ErrTwice
		case !s.has(r.Commit):
			return api.ErrArg
		}
	}
	return api.OK
}

func (s State) wrongHead() api.Errno {
	if s.Head.Branch == "" {
		if !s.has(s.Head.Commit) {
			return api.ErrArg
		}
		return api.OK
	}
	if !names.Good(s.Head.Branch) {
		return api.ErrName
	}
	commit := 0
	for _, r := range s.Refs {
		if r.Name == s.Head.Branch {
			commit = r.Commit
		}
	}
	if s.Head.Commit != commit {
		return api.ErrArg
	}
	return api.OK
}

func (s State) wrongCommits() error {
	if err := Graph(s).Check(); err != api.OK {
		return err
	}
	for _, c := range s.Commits {
		if err := c.Tree.Check(); err != nil {
			return err
		}
		if c.Time < 0 {
			return api.ErrArg
		}
		if len(c.Text) > api.MaxText {
			return api.ErrLong
		}
	}
	return nil
}

func (s State) wrongStash() error {
	for _, x := range s.Stash {
		if !s.has(x.Base) {
			return api.ErrArg
		}
		if err := x.Index.Check(); err != nil {
			return err
		}
		if err := x.Work.Check(); err != nil {
			return err
		}
	}
	return nil
}

const itemWeight = 16

// Weight tells how much there is in s.
func Weight(s State) (int, error) {
	n := s.Now.weight()
	for _, c := range s.Commits {
		n += itemWeight + rowWeight(c.Tree) + len(c.Text)
	}
	for _, text := range slices.Concat(s.Log.Back, s.Log.Forth) {
		was, err := Unmark(text)
		if err != nil {
			return 0, err
		}
		n += itemWeight + was.weight()
	}
	return n, nil
}

func (n Now) weight() int {
	sum := rowWeight(n.Work) + entriesWeight(n.Index) + len(n.Head.Branch) + n.Seq.weight()
	for _, r := range n.Refs {
		sum += itemWeight + len(r.Name)
	}
	for _, x := range n.Stash {
		sum += itemWeight + rowWeight(x.Index) + rowWeight(x.Work) + len(x.Text)
	}
	return sum
}

func (s Seq) weight() int {
	sum := len(s.Kind) + len(s.Text) + len(s.Branch) + len(s.Head.Branch)
	return sum + stepsWeight(s.Doing) + stepsWeight(s.Todo) + entriesWeight(s.Index) + rowWeight(s.Work)
}

func rowWeight(r files.Row) int {
	sum := 0
	for _, f := range r {
		sum += itemWeight + len(f.Path) + len(f.Data)
	}
	return sum
}

func entriesWeight(l []index.Entry) int {
	sum := 0
	for _, e := range l {
		sum += itemWeight + len(e.Path) + len(e.Data)
	}
	return sum
}

func stepsWeight(l []todo.Step) int {
	sum := 0
	for _, x := range l {
		sum += itemWeight + len(x.Verb) + len(x.Text)
	}
	return sum
}
