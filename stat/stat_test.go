package stat_test

import (
	"slices"
	"testing"

	"recto/api"
	"recto/index"
	"recto/simfs"
	"recto/stat"
)

func TestFresh(t *testing.T) {
	e := index.Entry{Path: "a", Mode: 1, Data: "xy", Time: 4, Size: 2}
	s := simfs.Stat{Size: 2, Time: 4, Inode: 9, Mode: 1}
	if !stat.Fresh(e, s, 5) || stat.Fresh(e, s, 4) || stat.Fresh(e, s, 3) {
		t.Error("written")
	}
	for i, c := range []struct {
		e index.Entry
		s simfs.Stat
	}{
		{e, simfs.Stat{Size: 3, Time: 4, Mode: 1}}, {e, simfs.Stat{Size: 2, Time: 3, Mode: 1}}, {e, simfs.Stat{Size: 2, Time: 4, Mode: 2}}, {index.Entry{Stage: 2, Mode: 1, Time: 4, Size: 2}, s},
	} {
		if stat.Fresh(c.e, c.s, 5) {
			t.Errorf("%d", i)
		}
	}
}

func TestNoteAndSmudge(t *testing.T) {
	e := index.Entry{Path: "a", Stage: 2, Mode: 1, Data: "xy", Time: 4, Size: 2}
	if got := stat.Note(e, simfs.Stat{Size: 7, Time: 8, Inode: 1, Mode: 2}); got != (index.Entry{Path: "a", Stage: 2, Mode: 1, Data: "xy", Time: 8, Size: 7}) {
		t.Errorf("%+v", got)
	}
	l := []index.Entry{{Path: "a", Time: 4, Size: 2}, {Path: "b", Stage: 1, Time: 5, Size: 2, Data: "x"}, {Path: "c", Time: 6, Size: 9}}
	got := stat.Smudge(l, 5)
	if !slices.Equal(got, []index.Entry{{Path: "a", Time: 4, Size: 2}, {Path: "b", Stage: 1, Data: "x"}, {Path: "c"}}) || l[2].Time != 6 {
		t.Errorf("%+v", got)
	}
}

func TestChanged(t *testing.T) {
	f := simfs.New(0)
	f.Tick()
	for p, d := range map[string]string{"fresh": "old!", "late": "old", "same": "same", "other": "new", "mode": "m", "zero": ""} {
		f.Edit(p, api.Plain, []byte(d))
	}
	l := []index.Entry{
		{Path: "fresh", Mode: 1, Data: "not asked", Time: 1, Size: 4},
		{Path: "first", Stage: 1, Mode: 1, Data: "x"},
		{Path: "gone", Mode: 1, Time: 1},
		{Path: "late", Mode: 1, Data: "xxx", Time: 2, Size: 3},
		{Path: "mode", Mode: 2, Data: "m", Time: 1, Size: 1},
		{Path: "other", Mode: 1, Data: "old"},
		{Path: "same", Mode: 1, Data: "same"},
		{Path: "staged", Stage: 1, Mode: 1, Data: "x"},
	}
	paths, looks, err := stat.Changed(f, l, 2)
	if !slices.Equal(paths, []string{"gone", "late", "mode", "other"}) || looks != 3 || err != api.OK {
		t.Errorf("%v, %d, %v", paths, looks, err)
	}
	paths, looks, err = stat.Changed(f, l, 1)
	if !slices.Equal(paths, []string{"fresh", "gone", "late", "mode", "other"}) || looks != 4 || err != api.OK {
		t.Errorf("%v, %d, %v", paths, looks, err)
	}
	f.Cut()
	for _, l := range [][]index.Entry{l, nil} {
		if paths, looks, err = stat.Changed(f, l, 2); paths != nil || looks != 0 || err != api.ErrDown {
			t.Errorf("%v, %d, %v", paths, looks, err)
		}
	}
}
