package copies_test

import (
	"reflect"
	"testing"

	"recto/copies"
	"recto/files"
	"recto/index"
	"recto/names"
	"recto/oplog"
	"recto/shelf"
	"recto/state"
	"recto/todo"
)

func some() state.State {
	row := func() files.Row { return files.Row{{Path: "a", Mode: 1, Data: "x"}} }
	ix := func() []index.Entry { return []index.Entry{{Path: "a", Mode: 1}} }
	steps := func() []todo.Step { return []todo.Step{{Verb: "pick", Commit: 1}} }
	return state.State{
		Now: state.Now{
			Work: row(), Index: ix(), Refs: []names.Ref{{Name: "a", Commit: 1}}, Head: names.Head{Branch: "a", Commit: 1},
			Seq: state.Seq{Kind: "k", Doing: steps(), Todo: steps(), Index: ix(), Work: row()}, Stash: shelf.Stack{{Base: 1, Index: row(), Work: row()}},
		},
		Commits: []state.Commit{{Tree: row(), Parents: []int{1}}}, Log: oplog.Log{Back: []string{"b"}, Forth: []string{"f"}}, Time: 7,
	}
}

// spoil writes into all that v leads to.
func spoil(v reflect.Value) {
	switch v.Kind() {
	case reflect.Struct:
		for i := range v.NumField() {
			spoil(v.Field(i))
		}
	case reflect.Slice:
		for i := range v.Len() {
			spoil(v.Index(i))
		}
	case reflect.String:
		v.SetString("spoilt")
	case reflect.Int:
		v.SetInt(99)
	}
}

func TestACopySharesNothing(t *testing.T) {
	s := some()
	c := copies.State(s)
	if !reflect.DeepEqual(c, s) {
		t.Errorf("%+v", c)
	}
	spoil(reflect.ValueOf(&c).Elem())
	if reflect.DeepEqual(c, some()) || !reflect.DeepEqual(s, some()) {
		t.Errorf("%+v", s)
	}
}
