// Package copies: states anew, so that no two share a list.
package copies

import (
	"slices"

	"recto/shelf"
	"recto/state"
)

// State tells s with lists of its own.
func State(s state.State) state.State {
	s.Now = now(s.Now)
	s.Commits = slices.Clone(s.Commits)
	for i, c := range s.Commits {
		c.Tree, c.Parents = slices.Clone(c.Tree), slices.Clone(c.Parents)
		s.Commits[i] = c
	}
	s.Log.Back, s.Log.Forth = slices.Clone(s.Log.Back), slices.Clone(s.Log.Forth)
	return s
}

func now(n state.Now) state.Now {
	n.Work, n.Index, n.Refs = slices.Clone(n.Work), slices.Clone(n.Index), slices.Clone(n.Refs)
	n.Seq, n.Stash = seq(n.Seq), stash(n.Stash)
	return n
}

func seq(s state.Seq) state.Seq {
	s.Doing, s.Todo = slices.Clone(s.Doing), slices.Clone(s.Todo)
	s.Index, s.Work = slices.Clone(s.Index), slices.Clone(s.Work)
	return s
}

func stash(s shelf.Stack) shelf.Stack {
	s = slices.Clone(s)
	for i, x := range s {
		x.Index, x.Work = slices.Clone(x.Index), slices.Clone(x.Work)
		s[i] = x
	}
	return s
}
