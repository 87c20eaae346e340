package tmerge_test

import (
	"errors"
	"slices"
	"strconv"
	"strings"
	"testing"

	"recto/api"
	"recto/files"
	"recto/index"
	"recto/tmerge"
)

func file(p string, mode int, data string) files.File {
	return files.File{Path: p, Mode: mode, Data: data}
}

func row(l ...files.File) files.Row { return l }

func TestOne(t *testing.T) {
	plain := func(d string) files.Row { return row(file("p", 1, d)) }
	run := func(d string) files.Row { return row(file("p", 2, d)) }
	long := strings.Repeat("x\n", 257)
	marked := func(a, b string) string { return "<<<<<<< A\n" + a + "=======\n" + b + ">>>>>>> B\n" }
	big := strings.Repeat("o", 2100) + "\n"
	big2 := strings.Repeat("t", 2100) + "\n"
	half := strings.Repeat("h", 2047) + "\n"
	for i, c := range []struct {
		base, ours, theirs, want files.Row
		clash                    bool
	}{
		{nil, nil, nil, nil, false},
		{nil, plain("a"), plain("a"), plain("a"), false}, {plain("x"), plain("a"), plain("a"), plain("a"), false}, {plain("a"), nil, nil, nil, false},
		{plain("a"), plain("a"), plain("b"), plain("b"), false}, {plain("a"), plain("a"), nil, nil, false}, {nil, nil, plain("b"), plain("b"), false},
		{plain("a"), plain("b"), plain("a"), plain("b"), false}, {plain("a"), nil, plain("a"), nil, false}, {nil, plain("b"), nil, plain("b"), false},
		{plain("a"), run("a"), plain("b"), run("b"), false}, {plain("a"), plain("b"), run("a"), run("b"), false}, {plain("a"), run("b"), plain("b"), run("b"), false}, {run("a"), plain("b"), run("b"), plain("b"), false},
		{nil, plain("a"), run("a"), plain("a"), false}, {nil, run("a"), plain("a"), run("a"), false},
		{plain("a\nb\nc\n"), run("x\nb\nc\n"), plain("a\nb\ny\n"), run("x\nb\ny\n"), false},
		{plain("a\n"), plain("b\n"), run("c\n"), run(marked("b\n", "c\n")), true}, {nil, plain("b\n"), run("c\n"), plain(marked("b\n", "c\n")), true},
		{nil, plain(""), plain("c\n"), plain("c\n"), false},
		{plain("a"), nil, plain("b"), plain("b"), true}, {plain("a"), plain("b"), nil, plain("b"), true}, {plain("a"), run("a"), nil, run("a"), true}, {plain("a"), nil, run("a"), run("a"), true},
		{plain("a"), plain(long), run("b"), run(long), true}, {plain("a"), plain("b"), plain(long), plain("b"), true}, {plain(long), plain("b"), plain("c"), plain("b"), true}, {plain("a"), plain("a"), plain(long), plain(long), false},
		{plain("k\n"), plain(half + "k\n"), plain("k\n" + half[2:]), plain(half + "k\n" + half[2:]), false}, {plain("k\n"), plain(half + "k\n"), plain("k\n" + half[1:]), plain(half + "k\n"), true},
		{plain("a\n"), plain(big), plain(big2), plain(big), true}, {plain("k\n"), plain(big + "k\n"), plain("k\n" + big2), plain(big + "k\n"), true},
	} {
		f, there, clash := tmerge.One("p", c.base, c.ours, c.theirs, "A", "B")
		var got files.Row
		if there {
			got = row(f)
		}
		if !got.Same(c.want) || clash != c.clash || !there && f != (files.File{}) {
			t.Errorf("%d: %v, %v, want %v, %v", i, got, clash, c.want, c.clash)
		}
	}
}

func TestMerge(t *testing.T) {
	base := row(file("a", 1, "1"), file("b", 1, "1"), file("c", 1, "1"), file("d", 1, "1\n"))
	ours := row(file("a", 2, "1"), file("b", 1, "2"), file("d", 1, "2\n"), file("n", 1, "o\n"))
	theirs := row(file("b", 1, "1"), file("c", 1, "2"), file("d", 1, "3\n"), file("m", 1, "m"), file("n", 1, "t\n"))
	got, err := tmerge.Merge(base, ours, theirs, "A", "B")
	if err != nil {
		t.Fatal(err)
	}
	want := row(file("a", 2, "1"), file("b", 1, "2"), file("c", 1, "2"), file("d", 1, "<<<<<<< A\n2\n=======\n3\n>>>>>>> B\n"), file("m", 1, "m"), file("n", 1, "<<<<<<< A\no\n=======\nt\n>>>>>>> B\n"))
	if !got.Files.Same(want) || !slices.Equal(got.Conflicts, []string{"a", "c", "d", "n"}) {
		t.Errorf("%+v", got)
	}
	e := func(p string, stage, mode int, data string) index.Entry {
		return index.Entry{Path: p, Stage: stage, Mode: mode, Data: data}
	}
	if !slices.Equal(got.Entries, []index.Entry{e("a", 1, 1, "1"), e("a", 2, 2, "1"), e("c", 1, 1, "1"), e("c", 3, 1, "2"), e("d", 1, 1, "1\n"), e("d", 2, 1, "2\n"), e("d", 3, 1, "3\n"), e("n", 2, 1, "o\n"), e("n", 3, 1, "t\n")}) || index.Check(got.Entries) != nil {
		t.Errorf("%+v", got.Entries)
	}
	got.Files[0].Data = "z"
	if ours[0].Data != "1" {
		t.Error("an answer shares memory")
	}
}

func many(prefix string, n int) files.Row {
	var r files.Row
	for i := range n {
		r = append(r, file(prefix+strconv.Itoa(100+i), 1, ""))
	}
	return r
}

func TestMergeRefuses(t *testing.T) {
	bad := row(file("A", 1, ""))
	twice := row(file("a", 1, ""), file("a", 1, ""))
	for i, c := range []struct {
		base, ours, theirs files.Row
		want               string
	}{
		{bad, twice, twice, "file 0: name"}, {nil, twice, bad, "file 1: twice"}, {nil, nil, many("f", 65), "file 64: long"},
		{nil, row(file("a", 1, "")), row(file("a/b", 1, "")), "file 1: way"}, {nil, row(file("a", 1, ""), file("a-b", 1, ""), file("z", 1, "")), row(file("a/b", 1, ""), file("z/b", 1, "")), "file 2: way"},
		{nil, many("f", 40), many("g", 25), "file 64: long"}, {nil, append(row(file("a", 1, "")), many("f", 40)...), append(row(file("a/b", 1, "")), many("g", 40)...), "file 64: long"},
	} {
		got, err := tmerge.Merge(c.base, c.ours, c.theirs, "A", "B")
		var f *api.Fault
		if !errors.As(err, &f) || err.Error() != c.want || got.Files != nil || got.Entries != nil || got.Conflicts != nil {
			t.Errorf("%d: %v, want %s", i, err, c.want)
		}
	}
	if got, err := tmerge.Merge(nil, many("f", 40), many("g", 24), "A", "B"); err != nil || len(got.Files) != 64 {
		t.Errorf("at the bound: %v", err)
	}
	if got, err := tmerge.Merge(row(file("a", 1, "")), row(file("a", 1, "")), row(file("a/b", 1, "")), "A", "B"); err != nil || !got.Files.Same(row(file("a/b", 1, ""))) {
		t.Errorf("a file gives way to a folder: %v, %v", got, err)
	}
}
