package repo

import (
	"slices"

	"recto/api"
	"recto/files"
	"recto/index"
	"recto/path"
	"recto/shelf"
	"recto/state"
	"recto/status"
	"recto/tmerge"
)

// mayJoin tells why nothing can be brought in as things stand.
func (d *desk) mayJoin() error {
	switch {
	case d.Head.Commit == 0:
		return api.ErrState
	case !d.isClean():
		return api.ErrDirty
	}
	return nil
}

// halt stops the command till conflicts are decided; ahead is all as it was.
func (d *desk) halt(kind string, other int, text string, ahead state.Now) {
	d.Seq = state.Seq{Kind: kind, Other: other, Text: text, Head: ahead.Head, Index: ahead.Index, Work: ahead.Work}
	d.stop = api.ErrConflict
}

// merge brings in a branch.
func (d *desk) merge(name string) error {
	theirs, there := d.table().Get(name)
	if !there {
		return api.ErrName
	}
	if err := d.mayJoin(); err != nil {
		return err
	}
	g, head := state.Graph(d.State), d.Head.Commit
	if g.Is(theirs, head) {
		return api.ErrSame
	}
	if g.Is(head, theirs) {
		return d.forward(theirs)
	}
	ahead, text := d.Now, "merge "+name
	r, err := d.lay(d.tree(g.Base(head, theirs)), d.tree(theirs), name)
	if err != nil {
		return err
	}
	if len(r.Conflicts) > 0 {
		d.halt("merge", theirs, text, ahead)
		return nil
	}
	return d.record(r.Files, text, head, theirs)
}

// forward moves Head to a commit that comes from it.
func (d *desk) forward(commit int) error {
	if err := d.layResult(tmerge.Result{Files: d.tree(commit)}); err != nil {
		return err
	}
	return d.move(commit)
}

// again does a commit's change once more (pick), or takes it back (revert).
func (d *desk) again(verb string, commit int) error {
	if !d.mayChange(commit) {
		return api.ErrArg
	}
	if err := d.mayJoin(); err != nil {
		return err
	}
	base, theirs := d.change(commit)
	text := d.textOf(commit)
	if verb == "revert" {
		base, theirs = theirs, base
		text = cut("revert " + text)
	}
	ahead, head := d.Now, d.head()
	r, err := d.lay(base, theirs, number(commit))
	switch {
	case err != nil:
		return err
	case len(r.Conflicts) > 0:
		d.halt(verb, commit, text, ahead)
		return nil
	case r.Files.Same(head):
		return api.ErrSame
	}
	return d.record(r.Files, text, d.Head.Commit)
}

// stash puts aside what is next and what is changed.
func (d *desk) stash(text string) error {
	switch {
	case d.Head.Commit == 0:
		return api.ErrState
	case d.inConflict():
		return api.ErrConflict
	case d.isClean() && d.isLaid():
		return api.ErrSame
	}
	tracked, untracked := d.split()
	x := shelf.Shelf{Base: d.Head.Commit, Index: d.next(), Work: tracked, Text: text}
	stack, no := d.Stash.Push(x)
	if no != api.OK {
		return no
	}
	if err := x.Index.Check(); err != nil {
		return innermost(err)
	}
	for _, f := range d.head() {
		if slices.ContainsFunc(untracked, func(g files.File) bool { return path.Clash(f.Path, g.Path) }) {
			return api.ErrDirty
		}
	}
	d.Stash = stack
	d.force(d.head())
	return nil
}

// split tells the files of the folder that are tracked, and those that are not.
func (d *desk) split() (tracked, untracked files.Row) {
	paths := status.Tracked(d.head(), d.Index)
	for _, f := range d.Work {
		if slices.Contains(paths, f.Path) {
			tracked = append(tracked, f)
		} else {
			untracked = append(untracked, f)
		}
	}
	return tracked, untracked
}

// apply brings back into the folder what was put aside; nothing of it is next but what is new.
func (d *desk) apply(n int, pop bool) error {
	x, no := d.Stash.Get(n)
	if no != api.OK {
		return no
	}
	if !d.isClean() {
		return api.ErrDirty
	}
	r, err := d.lay(d.tree(x.Base), x.Work, "stash")
	if err != nil {
		return err
	}
	for _, f := range d.head() {
		if !slices.Contains(r.Conflicts, f.Path) {
			d.Index = index.Put(d.Index, index.Entry{Path: f.Path, Mode: f.Mode, Data: f.Data})
		}
	}
	if len(r.Conflicts) > 0 {
		d.stop = api.ErrConflict
		return nil
	}
	if pop {
		return d.shelve(n)
	}
	return nil
}

// shelve drops what was put aside.
func (d *desk) shelve(n int) error {
	stack, no := d.Stash.Drop(n)
	if no != api.OK {
		return no
	}
	d.Stash = stack
	return nil
}
