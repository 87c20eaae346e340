package repo

import (
	"errors"
	"slices"
	"strconv"

	"recto/api"
	"recto/files"
	"recto/index"
	"recto/names"
	"recto/plan"
	"recto/state"
	"recto/status"
	"recto/tmerge"
)

const (
	maxEntries = 256
	ours       = "HEAD"
)

// desk is where a command is done: the state as it comes to be. Lists in it are never written
// into, others take their places: they may be those of the state that was handed in.
type desk struct {
	state.State
	stop error // why the command stopped on its way
}

// asError tells no error of OK.
func asError(err api.Errno) error {
	if err == api.OK {
		return nil
	}
	return err
}

// innermost tells the number of what is wrong in the end.
func innermost(err error) error {
	var n api.Errno
	if errors.As(err, &n) {
		return n
	}
	return err
}

// isFull tells whether there is more than a folder and an index may have.
func (d *desk) isFull() bool {
	return len(d.Work) > api.MaxFiles || len(d.Index) > maxEntries
}

func (d *desk) has(commit int) bool { return commit >= 1 && commit <= len(d.Commits) }

func (d *desk) tree(commit int) files.Row { return state.Tree(d.State, commit) }

// head tells the tree on which one stands.
func (d *desk) head() files.Row { return d.tree(d.Head.Commit) }

// next tells the tree that a commit would have.
func (d *desk) next() files.Row { return index.Stage(d.Index, 0) }

func (d *desk) inConflict() bool { return len(index.Conflicts(d.Index)) > 0 }

// isClean tells whether nothing is next.
func (d *desk) isClean() bool { return index.Same(d.Index, index.Of(d.head())) }

// isLaid tells whether the folder has all that is tracked as the index has it.
func (d *desk) isLaid() bool {
	next := d.next()
	return !slices.ContainsFunc(status.Tracked(d.head(), d.Index), func(p string) bool {
		return unlike(next, d.Work, p)
	})
}

func unlike(a, b files.Row, p string) bool {
	f, inA := a.Get(p)
	g, inB := b.Get(p)
	return inA != inB || f != g
}

// table tells names and Head as one can move them; keep takes them back.
func (d *desk) table() *names.Table {
	t := names.New()
	for _, r := range d.Refs {
		t.Set(r.Name, r.Commit)
	}
	if d.Head.Branch == "" {
		t.Detach(d.Head.Commit)
	} else {
		t.Attach(d.Head.Branch)
	}
	return t
}

func (d *desk) keep(t *names.Table) { d.Refs, d.Head = t.Row(), t.Head() }

func (d *desk) move(commit int) error {
	t := d.table()
	err := t.Move(commit)
	d.keep(t)
	return asError(err)
}

// record makes a commit; Head moves to it.
func (d *desk) record(tree files.Row, text string, parents ...int) error {
	if err := tree.Check(); err != nil {
		return innermost(err)
	}
	if len(d.Commits) >= api.MaxCommits {
		return api.ErrLong
	}
	if err := d.move(len(d.Commits) + 1); err != nil {
		return err
	}
	c := state.Commit{Tree: tree, Parents: parents, Time: d.Time, Text: text}
	d.Commits = slices.Concat(d.Commits, []state.Commit{c})
	return nil
}

// textOf tells the message of a commit.
func (d *desk) textOf(commit int) string {
	if !d.has(commit) {
		return ""
	}
	return d.Commits[commit-1].Text
}

// change tells the tree of a commit, and of its parent.
func (d *desk) change(commit int) (parent, tree files.Row) {
	if !d.has(commit) {
		return nil, nil
	}
	if l := d.Commits[commit-1].Parents; len(l) > 0 {
		parent = d.tree(l[0])
	}
	return parent, d.tree(commit)
}

// mayChange tells whether it is a commit with no more than one parent.
func (d *desk) mayChange(commit int) bool {
	return d.has(commit) && len(d.Commits[commit-1].Parents) < 2
}

// lay brings what leads from base to theirs into index and folder.
func (d *desk) lay(base, theirs files.Row, name string) (tmerge.Result, error) {
	r, err := tmerge.Merge(base, d.head(), theirs, ours, name)
	if err != nil {
		return tmerge.Result{}, err
	}
	return r, d.layResult(r)
}

func (d *desk) layResult(r tmerge.Result) error {
	ix, work, err := plan.Apply(d.head(), r, d.Index, d.Work)
	if err != nil {
		return err
	}
	d.Index, d.Work = ix, work
	return nil
}

// force lays tree, whatever is lost by it.
func (d *desk) force(tree files.Row) {
	d.Index, d.Work = plan.Force(d.head(), tree, d.Index, d.Work)
}

// cut tells no more of a message than there may be.
func cut(text string) string { return text[:min(len(text), api.MaxText)] }

func number(n int) string { return strconv.Itoa(n) }
