package plan_test

import (
	"errors"
	"slices"
	"strings"
	"testing"

	"recto/api"
	"recto/files"
	"recto/index"
	"recto/plan"
	"recto/tmerge"
)

// row reads "a=1 b=2": a path and its bytes each; a ! ahead of the path: Run.
func row(s string) files.Row {
	var r files.Row
	for _, w := range strings.Fields(s) {
		p, d, _ := strings.Cut(w, "=")
		f := files.File{Path: strings.TrimPrefix(p, "!"), Mode: api.Plain, Data: d}
		if p[0] == '!' {
			f.Mode = api.Run
		}
		r = append(r, f)
	}
	return r
}

func to(s string) tmerge.Result { return tmerge.Result{Files: row(s)} }

func entry(p string, stage int, d string) index.Entry {
	return index.Entry{Path: p, Stage: stage, Mode: api.Plain, Data: d}
}

func TestLost(t *testing.T) {
	clash := tmerge.Result{Files: row("a=1"), Conflicts: []string{"a", "g"}}
	staged := []index.Entry{entry("a", 1, "1"), entry("b", 0, "1")}
	for i, c := range []struct {
		head string
		r    tmerge.Result
		ix   []index.Entry
		work string
		want string
	}{
		{"a=1 b=1", to("a=2 b=1"), index.Of(row("a=1 b=1")), "a=1 b=1", ""},
		{"a=1 b=1", to("a=2 b=1"), index.Of(row("a=1 b=9")), "a=1 b=8", ""},
		{"a=1 b=1", to("a=2 b=1"), index.Of(row("a=9 b=1")), "a=9 b=1", "a"},
		{"a=1", to("a=2"), index.Of(row("a=2")), "a=2", "a"},
		{"a=1", to("a=2"), index.Of(row("a=1")), "a=9", "a"},
		{"a=1", to("a=2"), index.Of(row("!a=1")), "!a=1", "a"}, {"a=1", to("a=2"), index.Of(row("a=1")), "!a=1", "a"},
		{"a=1", to("a=2"), index.Of(row("a=1")), "", "a"}, {"a=1", to("a=2"), nil, "a=1", "a"}, {"a=1", to(""), nil, "", "a"}, {"a=1", to("!a=1"), index.Of(row("a=1")), "a=2", "a"},
		{"", to("n=1"), nil, "n=1", "n"}, {"", to("n=1"), nil, "", ""}, {"", to("n=1"), index.Of(row("n=1")), "n=1", "n"},
		{"a=1 b=1", to("b=1"), staged, "a=1 b=1", "a"}, {"b=1", to("b=1"), staged, "b=1", ""},
		{"a=1", clash, index.Of(row("a=1")), "a=1", ""}, {"a=1", clash, index.Of(row("a=1 g=1")), "a=2 g=1", "a g"},
		{"d=1", to("d/x=1"), index.Of(row("d=1")), "d=1", ""}, {"d=1", to("d/x=1"), index.Of(row("d=1")), "d=2", "d"},
		{"", to("d/x=1"), nil, "d=1 e=1", "d"}, {"", to("d=1"), nil, "d/x=1 d/y/z=1 e=1", "d/x d/y/z"}, {"d/x=1", to("d=1"), index.Of(row("d/x=1")), "d/u=1 d/x=1", "d/u"},
		{"q=1", tmerge.Result{}, index.Of(row("q=1")), "q=1 q/u=1", ""},
	} {
		ix := slices.Clone(c.ix)
		if got := strings.Join(plan.Lost(row(c.head), c.r, c.ix, row(c.work)), " "); got != c.want {
			t.Errorf("%d: Lost: %s, want %s", i, got, c.want)
		}
		gotIx, gotWork, err := plan.Apply(row(c.head), c.r, c.ix, row(c.work))
		var f *api.Fault
		if c.want == "" && err != nil || c.want != "" && (!errors.As(err, &f) || f.Part != "path" || f.At != len(strings.Fields(c.want)) || f.Err != api.ErrDirty || !slices.Equal(gotIx, ix) || !gotWork.Same(row(c.work))) {
			t.Errorf("%d: Apply: %v, %v, %v", i, gotIx, gotWork, err)
		}
		if !slices.Equal(c.ix, ix) {
			t.Errorf("%d: what was handed in changed", i)
		}
	}
}

// What is refused is told as it was: Time and Size, other Stages, what is not tracked, too.
func TestApplyRefusedTellsWhatWas(t *testing.T) {
	was := []index.Entry{entry("a", 1, "o"), entry("a", 3, "2"), {Path: "k", Mode: api.Run, Data: "1", Time: 3, Size: 4}, {Path: "u", Mode: api.Plain, Data: "staged", Time: 5, Size: 6}}
	for i, c := range []struct {
		head string
		r    tmerge.Result
		ix   []index.Entry
		work string
		lost int
	}{
		{"a=1 !k=1", to("a=2 n=1"), was, "a=<1> !k=1 u=mine", 1},
		{"a=1 !k=1", to("a=2 k=2 u=3"), was, "a=<1> !k=8 u=mine z=z", 3},
		{"", to("n=1"), nil, "n=mine", 1},
		{"a=1", to(""), was[2:], "", 1},
		{"", tmerge.Result{Conflicts: []string{"g"}, Entries: []index.Entry{entry("g", 1, "1")}}, was[2:], "g=mine", 1},
	} {
		ix, work := slices.Clone(c.ix), row(c.work)
		gotIx, gotWork, err := plan.Apply(row(c.head), c.r, ix, work)
		var f *api.Fault
		if !errors.As(err, &f) || f.Part != "path" || f.At != c.lost || f.Err != api.ErrDirty {
			t.Errorf("%d: %v", i, err)
		}
		if !slices.Equal(gotIx, c.ix) || !slices.Equal(gotWork, row(c.work)) {
			t.Errorf("%d: %v, %v", i, gotIx, gotWork)
		}
		for k := range gotIx {
			gotIx[k].Path = "spoilt"
		}
		for k := range gotWork {
			gotWork[k].Path = "spoilt"
		}
		if !slices.Equal(ix, c.ix) || !slices.Equal(work, row(c.work)) {
			t.Errorf("%d: an answer shares memory", i)
		}
	}
}

func TestApply(t *testing.T) {
	r := tmerge.Result{
		Files:     row("a=<1> b=1 c/x=new !k=1 n=1"),
		Entries:   []index.Entry{entry("a", 1, "o"), entry("a", 2, "1"), entry("a", 3, "2"), entry("g", 1, "1"), entry("g", 3, "2")},
		Conflicts: []string{"a", "g"},
	}
	head := row("a=1 b=1 c=1 d=1 k=1")
	ix := index.Put(index.Of(head), index.Entry{Path: "u", Mode: 1, Data: "staged", Time: 3, Size: 4})
	work := row("a=1 b=changed c=1 d=1 k=1 o=mine u=other")
	gotIx, gotWork, err := plan.Apply(head, r, ix, work)
	if err != nil {
		t.Fatal(err)
	}
	if !gotWork.Same(row("a=<1> b=changed c/x=new !k=1 n=1 o=mine u=other")) {
		t.Errorf("%v", gotWork)
	}
	want := []index.Entry{entry("a", 1, "o"), entry("a", 2, "1"), entry("a", 3, "2"), entry("b", 0, "1"), entry("c/x", 0, "new"), entry("g", 1, "1"), entry("g", 3, "2"), {Path: "k", Mode: 2, Data: "1"}, entry("n", 0, "1"), {Path: "u", Mode: 1, Data: "staged", Time: 3, Size: 4}}
	if !slices.Equal(gotIx, want) {
		t.Errorf("%v", gotIx)
	}
}

func TestApplyOfOneConflict(t *testing.T) {
	r := tmerge.Result{Files: row("a=<1>"), Entries: []index.Entry{entry("a", 2, "1"), entry("a", 3, "2")}, Conflicts: []string{"a"}}
	ix, work, err := plan.Apply(row("a=1"), r, index.Of(row("a=1")), row("a=1"))
	if err != nil || !slices.Equal(ix, r.Entries) || !work.Same(r.Files) {
		t.Errorf("%v, %v, %v", ix, work, err)
	}
}

func TestForceIsAnew(t *testing.T) {
	work := row("a=1")
	_, got := plan.Force(nil, nil, nil, work)
	got[0].Data = "z"
	if !work.Same(row("a=1")) {
		t.Error("an answer shares memory")
	}
}

func TestApplyOfNothingIsAnew(t *testing.T) {
	head := row("a=1")
	ix := index.Of(head)
	work := row("a=1 b=2")
	gotIx, gotWork, err := plan.Apply(head, to("a=1"), ix, work)
	if err != nil || !slices.Equal(gotIx, ix) || !gotWork.Same(work) {
		t.Errorf("%v, %v, %v", gotIx, gotWork, err)
	}
	gotIx[0].Mode, gotWork[0].Mode = 9, 9
	if ix[0].Mode != 1 || work[0].Mode != 1 {
		t.Error("an answer shares memory")
	}
}

func TestForce(t *testing.T) {
	for i, c := range []struct {
		head, to string
		ix       []index.Entry
		work     string
		want     string
	}{
		{"a=1 b=1", "a=2", index.Of(row("a=1 c=1")), "a=9 b=9 c=9 u=9", "a=2 u=9"},
		{"", "d=1", nil, "d/x=1 d/y=1 e=1", "d=1 e=1"}, {"", "d/x=1", nil, "d=1", "d/x=1"}, {"", "u=1", nil, "u=9", "u=1"},
		{"", "", []index.Entry{entry("a", 1, "x"), entry("a", 3, "y")}, "a=9 b=9", "b=9"},
	} {
		gotIx, gotWork := plan.Force(row(c.head), row(c.to), c.ix, row(c.work))
		if !slices.Equal(gotIx, index.Of(row(c.to))) || !gotWork.Same(row(c.want)) {
			t.Errorf("%d: %v, %v", i, gotIx, gotWork)
		}
	}
}
