package repo

import (
	"slices"

	"recto/api"
	"recto/cmd"
	"recto/files"
	"recto/index"
	"recto/path"
	"recto/plan"
	"recto/state"
	"recto/status"
	"recto/tmerge"
)

// add lets the index have a path, or all, as the folder has it.
func (d *desk) add(name string) error {
	ix := d.Index
	if name != "" {
		next, known := d.added(ix, name)
		if !known {
			return api.ErrName
		}
		ix = next
	} else {
		for _, p := range d.paths() {
			ix, _ = d.added(ix, p)
		}
	}
	if index.Same(ix, d.Index) {
		return api.ErrSame
	}
	d.Index = ix
	return nil
}

// paths tells all paths of folder and index.
func (d *desk) paths() []string {
	all := append(files.Paths(d.Work), status.Tracked(nil, d.Index)...)
	slices.SortFunc(all, path.Compare)
	return slices.Compact(all)
}

func (d *desk) added(ix []index.Entry, p string) ([]index.Entry, bool) {
	if f, there := d.Work.Get(p); there {
		return index.Put(ix, index.Entry{Path: p, Mode: f.Mode, Data: f.Data}), true
	}
	if !known(ix, p) {
		return ix, false
	}
	return index.Drop(ix, p), true
}

func known(ix []index.Entry, p string) bool {
	return slices.ContainsFunc(ix, func(e index.Entry) bool { return e.Path == p })
}

// rm takes a path out of index and folder.
func (d *desk) rm(p string, force bool) error {
	if !known(d.Index, p) {
		return api.ErrName
	}
	if !force && d.isChanged(p) {
		return api.ErrDirty
	}
	d.Index, d.Work = index.Drop(d.Index, p), d.Work.Cut(p)
	return nil
}

// isChanged tells whether something of p would be lost with it.
func (d *desk) isChanged(p string) bool {
	next := d.next()
	if _, there := next.Get(p); !there {
		return true
	}
	_, inWork := d.Work.Get(p)
	return unlike(d.head(), next, p) || inWork && unlike(next, d.Work, p)
}

// commit makes a commit of what is next.
func (d *desk) commit(text string) error {
	switch {
	case d.inConflict():
		return api.ErrConflict
	case d.Seq.Kind == "rebase" && len(d.Seq.Doing) > 0:
		return api.ErrState
	case d.Seq.Kind != "merge" && d.next().Same(d.head()):
		return api.ErrSame
	}
	return d.commitNext(text)
}

func (d *desk) commitNext(text string) error {
	var parents []int
	if d.Head.Commit > 0 {
		parents = append(parents, d.Head.Commit)
	}
	if d.Seq.Kind == "merge" {
		parents = append(parents, d.Seq.Other)
	}
	if err := d.record(d.next(), text, parents...); err != nil {
		return err
	}
	if d.Seq.Kind != "rebase" {
		d.Seq = state.Seq{}
	}
	return nil
}

func (d *desk) branch(name string) error {
	if d.Head.Commit == 0 {
		return api.ErrState
	}
	t := d.table()
	if _, there := t.Get(name); there {
		return api.ErrTwice
	}
	err := t.Set(name, d.Head.Commit)
	d.keep(t)
	return asError(err)
}

func (d *desk) delete(name string) error {
	t := d.table()
	err := t.Delete(name)
	d.keep(t)
	return asError(err)
}

// switchTo lays the tree of a branch, or of a commit; Head is there.
func (d *desk) switchTo(c cmd.Cmd) error {
	t := d.table()
	commit, there := t.Get(c.Name)
	if c.Name == "" {
		commit = c.N
		if !d.has(commit) {
			return api.ErrArg
		}
	} else if !there {
		return api.ErrName
	}
	if c.Force {
		d.force(d.tree(commit))
	} else if d.inConflict() {
		return api.ErrConflict
	} else if err := d.layResult(tmerge.Result{Files: d.tree(commit)}); err != nil {
		return err
	}
	if c.Name == "" {
		t.Detach(commit)
	} else {
		t.Attach(c.Name)
	}
	d.keep(t)
	return nil
}

// reset moves Head; with it the index goes, and the folder, as the mode says.
func (d *desk) reset(mode string, commit int) error {
	if !d.has(commit) {
		return api.ErrArg
	}
	tree := d.tree(commit)
	switch mode {
	case "hard":
		_, d.Work = plan.Force(d.head(), tree, d.Index, d.Work)
		fallthrough
	case "mixed":
		d.Index = index.Of(tree)
	}
	return d.move(commit)
}
