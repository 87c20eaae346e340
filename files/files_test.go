package files_test

import (
	"errors"
	"slices"
	"strconv"
	"strings"
	"testing"

	"recto/api"
	"recto/files"
)

func file(p string) files.File { return files.File{Path: p, Mode: api.Plain, Data: p} }

func row(l ...string) files.Row {
	var r files.Row
	for _, p := range l {
		r = append(r, file(p))
	}
	return r
}

func many(n int) files.Row {
	var r files.Row
	for i := range n {
		r = append(r, file("f"+strconv.Itoa(100+i)))
	}
	return r
}

func TestCheck(t *testing.T) {
	bad := many(65)
	bad[0].Path = ""
	for i, c := range []struct {
		r    files.Row
		at   int
		want api.Errno
	}{
		{nil, 0, api.OK}, {many(64), 0, api.OK}, {bad, 64, api.ErrLong}, {row("a", "B"), 1, api.ErrName}, {row(strings.Repeat("a", 65)), 0, api.ErrLong},
		{files.Row{{Path: "a"}}, 0, api.ErrArg}, {files.Row{{Path: "a", Mode: 3, Data: strings.Repeat("x", 4097)}}, 0, api.ErrArg},
		{files.Row{{Path: "a", Mode: 2, Data: strings.Repeat("x", 4096)}}, 0, api.OK}, {files.Row{file("a"), {Path: "a", Mode: 2, Data: strings.Repeat("x", 4097)}}, 1, api.ErrLong},
		{row("a", "a"), 1, api.ErrTwice}, {row("b", "a", ""), 1, api.ErrTwice}, {row("a", "a-b", "a/b", "a/c"), 2, api.ErrWay}, {row("a/b", "a/c"), 0, api.OK},
	} {
		err := c.r.Check()
		var f *api.Fault
		if c.want == api.OK && err != nil || c.want != api.OK && (!errors.As(err, &f) || f.Part != "file" || f.At != c.at || f.Err != c.want) {
			t.Errorf("%d: %v", i, err)
		}
	}
}

func TestGetPutCutClear(t *testing.T) {
	r := row("b", "d", "d-", "d/e")
	if f, there := r.Get("d"); !there || f != file("d") {
		t.Errorf("%v", f)
	}
	if f, there := r.Get("c"); there || f != (files.File{}) {
		t.Errorf("%v", f)
	}
	for i, c := range []struct{ got, want files.Row }{
		{r.Put(file("a")), row("a", "b", "d", "d-", "d/e")}, {r.Put(file("c")), row("b", "c", "d", "d-", "d/e")}, {r.Put(file("z")), row("b", "d", "d-", "d/e", "z")},
		{r.Put(files.File{Path: "b", Mode: 2}), files.Row{{Path: "b", Mode: 2}, file("d"), file("d-"), file("d/e")}}, {files.Row(nil).Put(file("a")), row("a")},
		{r.Cut("d"), row("b", "d-", "d/e")}, {r.Cut("x"), r}, {r.Clear("d"), row("b", "d", "d-")}, {r.Clear("d/e/f"), row("b", "d-")}, {r.Clear("b"), r}, {r.Clear(""), r},
	} {
		if !c.got.Same(c.want) || !slices.Equal(c.got, c.want) {
			t.Errorf("%d: %v", i, c.got)
		}
		for k := range c.got {
			c.got[k].Mode = 9
		}
	}
	if !r.Same(row("b", "d", "d-", "d/e")) {
		t.Error("an answer shares memory")
	}
	room := row("a", "b", "c")
	_ = room[:1].Put(file("x"))
	_ = append(room[:1].Cut("q"), file("y"))
	if !room.Same(row("a", "b", "c")) {
		t.Error("spare room changed")
	}
}

func TestSame(t *testing.T) {
	if !files.Row(nil).Same(files.Row{}) || row("a").Same(row("b")) || row("a").Same(row("a", "b")) || row("a").Same(files.Row{{Path: "a", Mode: 2, Data: "a"}}) || row("a").Same(files.Row{{Path: "a", Mode: 1}}) {
		t.Error("Same")
	}
}

func TestDiffAndPaths(t *testing.T) {
	a := files.Row{file("a"), file("b"), file("c"), file("e")}
	b := files.Row{file("a"), {Path: "b", Mode: 2, Data: "b"}, {Path: "c", Mode: 1}, file("d")}
	if got := files.Diff(a, b); !slices.Equal(got, []files.Delta{{"b", "M"}, {"c", "M"}, {"d", "A"}, {"e", "D"}}) {
		t.Errorf("%v", got)
	}
	if len(files.Diff(a, a)) != 0 || len(files.Diff(nil, files.Row{})) != 0 {
		t.Error("of the same")
	}
	if got := files.Paths(a, nil, row("0", "e"), b); !slices.Equal(got, []string{"0", "a", "b", "c", "d", "e"}) {
		t.Errorf("%v", got)
	}
	if len(files.Paths()) != 0 {
		t.Error("of none")
	}
}

func TestAnyRowsEnd(t *testing.T) {
	r := files.Row{file("z"), file("a"), file("z"), {}}
	r.Get("a")
	r.Put(file("m"))
	r.Cut("z")
	r.Clear("z/y")
	files.Diff(r, r.Put(file("")))
	files.Paths(r, r)
	if !r.Same(files.Row{file("z"), file("a"), file("z"), {}}) {
		t.Error("what was handed in changed")
	}
}
