package state

import (
	"recto/api"
	"recto/codec"
	"recto/files"
	"recto/index"
	"recto/names"
	"recto/oplog"
	"recto/seal"
	"recto/shelf"
	"recto/todo"
)

// Mark tells all of n in a text.
func Mark(n Now) string {
	var w writer
	w.now(n)
	return string(w.Bytes())
}

// Unmark reads what Mark told.
func Unmark(s string) (Now, error) {
	r := reader{Dec: codec.Of([]byte(s))}
	n := r.now()
	if err := r.wrong(); err != nil {
		return Now{}, err
	}
	return n, nil
}

// Encode tells all of s in bytes, with their sum.
func Encode(s State) []byte {
	var w writer
	w.now(s.Now)
	w.Int(len(s.Commits))
	for _, c := range s.Commits {
		w.commit(c)
	}
	w.texts(s.Log.Back)
	w.texts(s.Log.Forth)
	w.Int(s.Time)
	return seal.Put(w.Bytes())
}

// Decode reads what Encode told.
func Decode(b []byte) (State, error) {
	body, err := seal.Open(b)
	if err != nil {
		return State{}, err
	}
	r := reader{Dec: codec.Of(body)}
	s := State{Now: r.now(), Commits: list(&r, r.commit)}
	s.Log = oplog.Log{Back: list(&r, r.Text), Forth: list(&r, r.Text)}
	s.Time = r.Int()
	if err := r.wrong(); err != nil {
		return State{}, err
	}
	return s, nil
}

type writer struct{ codec.Enc }

func (w *writer) now(n Now) {
	w.row(n.Work)
	w.entries(n.Index)
	w.Int(len(n.Refs))
	for _, x := range n.Refs {
		w.Text(x.Name)
		w.Int(x.Commit)
	}
	w.head(n.Head)
	w.seq(n.Seq)
	w.Int(len(n.Stash))
	for _, x := range n.Stash {
		w.Int(x.Base)
		w.row(x.Index)
		w.row(x.Work)
		w.Text(x.Text)
	}
}

func (w *writer) seq(s Seq) {
	w.Text(s.Kind)
	w.Int(s.Other)
	w.Text(s.Text)
	w.steps(s.Doing)
	w.steps(s.Todo)
	w.Int(s.Made)
	w.Text(s.Branch)
	w.head(s.Head)
	w.entries(s.Index)
	w.row(s.Work)
}

func (w *writer) row(r files.Row) {
	w.Int(len(r))
	for _, f := range r {
		w.Text(f.Path)
		w.Int(f.Mode)
		w.Text(f.Data)
	}
}

func (w *writer) entries(l []index.Entry) {
	w.Int(len(l))
	for _, e := range l {
		w.Text(e.Path)
		w.Int(e.Stage, e.Mode)
		w.Text(e.Data)
		w.Int(e.Time, e.Size)
	}
}

func (w *writer) head(h names.Head) {
	w.Text(h.Branch)
	w.Int(h.Commit)
}

func (w *writer) steps(l []todo.Step) {
	w.Int(len(l))
	for _, x := range l {
		w.Text(x.Verb)
		w.Int(x.Commit)
		w.Text(x.Text)
	}
}

func (w *writer) commit(c Commit) {
	w.row(c.Tree)
	w.Int(len(c.Parents))
	w.Int(c.Parents...)
	w.Int(c.Time)
	w.Text(c.Text)
}

func (w *writer) texts(l []string) {
	w.Int(len(l))
	w.Text(l...)
}

type reader struct {
	*codec.Dec
	below bool // a count was below 0
}

// list reads a count, and so many; each is of a byte at least, so that it ends.
func list[T any](r *reader, one func() T) []T {
	n := r.Int()
	r.below = r.below || n < 0
	var out []T
	for len(out) < n && r.Err() == nil {
		out = append(out, one())
	}
	return out
}

// wrong tells why what was read is none of ours.
func (r *reader) wrong() error {
	if err := r.Err(); err != nil {
		return err
	}
	if r.below || r.Left() > 0 {
		return &api.Fault{Part: "mark", At: r.Left(), Err: api.ErrForm}
	}
	return nil
}

func (r *reader) now() Now {
	return Now{Work: r.row(), Index: r.entries(), Refs: list(r, r.ref), Head: r.head(), Seq: r.seq(), Stash: list(r, r.shelf)}
}

func (r *reader) seq() Seq {
	return Seq{
		Kind: r.Text(), Other: r.Int(), Text: r.Text(), Doing: r.steps(), Todo: r.steps(), Made: r.Int(),
		Branch: r.Text(), Head: r.head(), Index: r.entries(), Work: r.row(),
	}
}

func (r *reader) row() files.Row {
	return list(r, func() files.File { return files.File{Path: r.Text(), Mode: r.Int(), Data: r.Text()} })
}

func (r *reader) entries() []index.Entry {
	return list(r, func() index.Entry {
		return index.Entry{Path: r.Text(), Stage: r.Int(), Mode: r.Int(), Data: r.Text(), Time: r.Int(), Size: r.Int()}
	})
}

func (r *reader) ref() names.Ref { return names.Ref{Name: r.Text(), Commit: r.Int()} }

func (r *reader) head() names.Head { return names.Head{Branch: r.Text(), Commit: r.Int()} }

func (r *reader) steps() []todo.Step {
	return list(r, func() todo.Step { return todo.Step{Verb: r.Text(), Commit: r.Int(), Text: r.Text()} })
}

func (r *reader) shelf() shelf.Shelf {
	return shelf.Shelf{Base: r.Int(), Index: r.row(), Work: r.row(), Text: r.Text()}
}

func (r *reader) commit() Commit {
	return Commit{Tree: r.row(), Parents: list(r, r.Int), Time: r.Int(), Text: r.Text()}
}
