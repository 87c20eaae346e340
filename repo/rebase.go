package repo

import (
	"recto/api"
	"recto/files"
	"recto/names"
	"recto/state"
	"recto/tmerge"
	"recto/todo"
)

// rebase does the steps on top of another commit.
func (d *desk) rebase(onto int, steps []todo.Step) error {
	if !d.has(onto) {
		return api.ErrArg
	}
	if err := todo.Check(steps, state.Graph(d.State)); err != nil {
		return innermost(err)
	}
	if err := d.mayJoin(); err != nil {
		return err
	}
	if !d.isLaid() {
		return api.ErrDirty
	}
	ahead := d.Now
	if err := d.layResult(tmerge.Result{Files: d.tree(onto)}); err != nil {
		return err
	}
	d.Seq = state.Seq{Kind: "rebase", Todo: steps, Branch: ahead.Head.Branch, Head: ahead.Head, Index: ahead.Index, Work: ahead.Work}
	t := d.table()
	t.Detach(onto)
	d.keep(t)
	d.steps()
	return nil
}

// steps does what is left to do, till a step stops it.
func (d *desk) steps() {
	for len(d.Seq.Todo) > 0 {
		ahead := d.State
		stays, err := d.step(d.Seq.Todo[0])
		if err != nil {
			d.State, d.stop = ahead, err
			return
		}
		if stays {
			return
		}
	}
	d.endRebase()
}

// step does the first step of Todo. An error leaves it there; it tells whether one stays with it.
func (d *desk) step(x todo.Step) (bool, error) {
	d.Seq.Todo = d.Seq.Todo[1:]
	if x.Verb == "drop" {
		return false, nil
	}
	parent, tree := d.change(x.Commit)
	r, err := d.lay(parent, tree, number(x.Commit))
	if err != nil {
		return false, err
	}
	if d.isFull() {
		return false, api.ErrLong
	}
	if len(r.Conflicts) > 0 {
		d.Seq.Doing = []todo.Step{x}
		d.stop = api.ErrConflict
		return true, nil
	}
	return d.finish(x, r.Files)
}

// finish makes of a step's tree what its verb says; it tells whether one stays with it: with an
// edit, whether there was something to commit or not.
func (d *desk) finish(x todo.Step, tree files.Row) (bool, error) {
	return x.Verb == "edit", d.keepStep(x, tree)
}

// keepStep makes the commit of a step, if it makes one.
func (d *desk) keepStep(x todo.Step, tree files.Row) error {
	text := d.textOf(x.Commit)
	switch x.Verb {
	case "squash", "fixup":
		if d.Seq.Made > 0 && d.has(d.Head.Commit) {
			return d.amend(x, tree, text)
		}
		fallthrough
	default:
		if tree.Same(d.head()) {
			return nil
		}
	}
	if x.Verb == "reword" {
		text = x.Text
	}
	return d.made(d.record(tree, text, d.Head.Commit))
}

// amend makes Head's commit anew.
func (d *desk) amend(x todo.Step, tree files.Row, text string) error {
	old := d.Commits[d.Head.Commit-1]
	if x.Verb == "squash" {
		text = cut(old.Text + "\n" + text)
	} else {
		text = old.Text
	}
	return d.made(d.record(tree, text, old.Parents...))
}

// made counts a commit that was made.
func (d *desk) made(err error) error {
	if err == nil {
		d.Seq.Made++
	}
	return err
}

// endRebase lets the branch have what was made.
func (d *desk) endRebase() {
	if branch := d.Seq.Branch; branch != "" {
		t := d.table()
		t.Set(branch, d.Head.Commit)
		t.Attach(branch)
		d.keep(t)
	}
	d.Seq = state.Seq{}
}

// goOn goes on with what has stopped.
func (d *desk) goOn() error {
	if d.Seq.Kind == "" {
		return api.ErrState
	}
	if d.inConflict() {
		return api.ErrConflict
	}
	switch d.Seq.Kind {
	case "rebase":
		return d.goOnRebase()
	case "merge":
		return d.commitNext(d.Seq.Text)
	}
	if d.next().Same(d.head()) {
		d.Seq = state.Seq{}
		return nil
	}
	return d.commitNext(d.Seq.Text)
}

func (d *desk) goOnRebase() error {
	if len(d.Seq.Doing) == 0 {
		if !d.isClean() {
			return api.ErrDirty
		}
		d.steps()
		return nil
	}
	next := d.next()
	if err := next.Check(); err != nil {
		return innermost(err)
	}
	x := d.Seq.Doing[0]
	d.Seq.Doing = nil
	stays, err := d.finish(x, next)
	if err != nil || stays {
		return err
	}
	d.steps()
	return nil
}

// skip leaves out what has stopped.
func (d *desk) skip() error {
	if d.Seq.Kind == "" || d.Seq.Kind == "merge" {
		return api.ErrState
	}
	d.force(d.head())
	if d.Seq.Kind != "rebase" {
		d.Seq = state.Seq{}
		return nil
	}
	if len(d.Seq.Doing) > 0 {
		d.Seq.Doing = nil
	} else if len(d.Seq.Todo) > 0 {
		d.Seq.Todo = d.Seq.Todo[1:]
	}
	d.steps()
	return nil
}

// abort lets all be as it was ahead of what has stopped.
func (d *desk) abort() error {
	if d.Seq.Kind == "" {
		return api.ErrState
	}
	was := d.Seq
	t := d.table()
	restore(t, was.Head)
	d.keep(t)
	d.Work, d.Index, d.Seq = was.Work, was.Index, state.Seq{}
	return nil
}

// restore puts Head, and its branch, where they were.
func restore(t *names.Table, h names.Head) {
	if h.Branch == "" {
		t.Detach(h.Commit)
		return
	}
	t.Detach(1) // so that the branch can be taken away
	if h.Commit == 0 {
		t.Delete(h.Branch)
	} else {
		t.Set(h.Branch, h.Commit)
	}
	t.Attach(h.Branch)
}

// back undoes, or redoes.
func (d *desk) back(verb string) error {
	turn := d.Log.Undo
	if verb == "redo" {
		turn = d.Log.Redo
	}
	log, text, no := turn(state.Mark(d.Now))
	if no != api.OK {
		return no
	}
	was, err := state.Unmark(text)
	if err != nil {
		return err
	}
	d.Now, d.Log = was, log
	return nil
}
