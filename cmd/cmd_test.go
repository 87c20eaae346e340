package cmd_test

import (
	"errors"
	"math"
	"slices"
	"strings"
	"testing"

	"recto/api"
	"recto/cmd"
	"recto/todo"
)

func TestVerbs(t *testing.T) {
	want := strings.Fields("add rm commit branch delete switch reset merge pick revert stash pop apply shelve rebase continue skip abort undo redo")
	got := cmd.Verbs()
	if !slices.Equal(got, want) {
		t.Errorf("%q", got)
	}
	got[0] = "x"
	if !slices.Equal(cmd.Verbs(), want) {
		t.Error("Verbs shares its answers")
	}
}

func steps(l ...todo.Step) []todo.Step { return l }

func TestTextAndParse(t *testing.T) {
	for s, c := range map[string]cmd.Cmd{
		"add": {Verb: "add"}, "add a/b": {Verb: "add", Name: "a/b"}, "add -f": {Verb: "add", Name: "-f"}, "rm a": {Verb: "rm", Name: "a"}, "rm a -f": {Verb: "rm", Name: "a", Force: true}, "rm -f": {Verb: "rm", Name: "-f"}, "rm -f -f": {Verb: "rm", Name: "-f", Force: true},
		"pick 9": {Verb: "pick", N: 9}, "switch 9": {Verb: "switch", N: 9}, "pop 190": {Verb: "pop", N: 190}, "stash " + strings.Repeat("x", 256): {Verb: "stash", Text: strings.Repeat("x", 256)},
		"commit x": {Verb: "commit", Text: "x"}, "commit  a  b ": {Verb: "commit", Text: " a  b "}, "branch b-1": {Verb: "branch", Name: "b-1"}, "delete b": {Verb: "delete", Name: "b"},
		"switch main": {Verb: "switch", Name: "main"}, "switch main -f": {Verb: "switch", Name: "main", Force: true}, "switch 3": {Verb: "switch", N: 3}, "switch 1000000 -f": {Verb: "switch", N: 1000000, Force: true},
		"reset soft 1": {Verb: "reset", Name: "soft", N: 1}, "reset mixed 2": {Verb: "reset", Name: "mixed", N: 2}, "reset hard 3": {Verb: "reset", Name: "hard", N: 3}, "merge b": {Verb: "merge", Name: "b"},
		"pick 1": {Verb: "pick", N: 1}, "revert 20": {Verb: "revert", N: 20}, "stash": {Verb: "stash"}, "stash a b": {Verb: "stash", Text: "a b"}, "pop 0": {Verb: "pop"}, "apply 1": {Verb: "apply", N: 1}, "shelve 15": {Verb: "shelve", N: 15},
		"rebase 3\n": {Verb: "rebase", N: 3}, "rebase 3\npick 1\nreword 2 a b\n": {Verb: "rebase", N: 3, Todo: steps(todo.Step{Verb: "pick", Commit: 1}, todo.Step{Verb: "reword", Commit: 2, Text: "a b"})},
		"continue": {Verb: "continue"}, "skip": {Verb: "skip"}, "abort": {Verb: "abort"}, "undo": {Verb: "undo"}, "redo": {Verb: "redo"},
	} {
		if got := cmd.Text(c); got != s {
			t.Errorf("Text: %q, want %q", got, s)
		}
		if got, err := cmd.Parse(s); err != nil || !cmd.Same(got, c) {
			t.Errorf("Parse(%q): %+v, %v", s, got, err)
		}
		if err := cmd.Check(c); err != nil {
			t.Errorf("Check(%q): %v", s, err)
		}
	}
	if got, err := cmd.Parse("rebase 3"); err != nil || !cmd.Same(got, cmd.Cmd{Verb: "rebase", N: 3}) {
		t.Errorf("%+v, %v", got, err)
	}
	full := cmd.Cmd{Verb: "undo", Name: "n", N: 3, Text: "t", Force: true, Todo: steps(todo.Step{Verb: "x"})}
	if err := cmd.Check(full); err != nil || cmd.Text(full) != "undo" {
		t.Errorf("what a verb does not have is looked at: %v, %q", err, cmd.Text(full))
	}
	full.Verb = "switch"
	full.Name, full.N = "b", -9
	if err := cmd.Check(full); err != nil || cmd.Text(full) != "switch b -f" {
		t.Errorf("%v, %q", err, cmd.Text(full))
	}
}

func TestParseRefuses(t *testing.T) {
	for s, want := range map[string]string{
		"": "cmd -1: name", " add": "cmd -1: name", "Add a": "cmd -1: name", "nope\nx": "cmd -1: name", "\n": "cmd -1: name", "add\ta": "cmd -1: name",
		"add\n": "cmd 0: form", "add a\nb": "cmd 0: form", "add ": "cmd 0: form", "add  a": "cmd 0: form", "add a ": "cmd 0: form", "add a b": "cmd 0: form", "add a -f": "cmd 0: form", "add A": "cmd 0: name", "add " + strings.Repeat("a", 65): "cmd 0: long",
		"rm": "cmd 1: form", "rm a b": "cmd 1: form", "rm a -f -f": "cmd 1: form", "rm -f a": "cmd 1: form", "rm /": "cmd 1: name",
		"commit": "cmd 2: arg", "commit ": "cmd 2: form", "commit a\n": "cmd 2: form", "commit a\nb": "cmd 2: form", "commit " + strings.Repeat("x", 257): "cmd 2: long",
		"branch": "cmd 3: form", "branch ": "cmd 3: form", "branch 1": "cmd 3: name", "branch a b": "cmd 3: form", "delete A": "cmd 4: name",
		"switch": "cmd 5: form", "switch 0": "cmd 5: arg", "switch 01": "cmd 5: form", "switch 1a": "cmd 5: form", "switch 1000001": "cmd 5: form", "switch A": "cmd 5: name", "switch a 1": "cmd 5: form", "switch -f": "cmd 5: name", "switch a -f -f": "cmd 5: form", "switch a  -f": "cmd 5: form",
		"reset": "cmd 6: form", "reset soft": "cmd 6: form", "reset 1 soft": "cmd 6: form", "reset firm 1": "cmd 6: name", "reset firm 0": "cmd 6: name", "reset soft 0": "cmd 6: arg", "reset soft 1 2": "cmd 6: form",
		"merge": "cmd 7: form", "merge a/b": "cmd 7: name", "pick": "cmd 8: form", "pick x": "cmd 8: form", "pick -1": "cmd 8: form", "pick 0": "cmd 8: arg", "pick 99999999999999999999999": "cmd 8: form", "pick 18446744073709551617": "cmd 8: form", "revert 00": "cmd 9: form",
		"stash ": "cmd 10: form", "stash a\n": "cmd 10: form", "pop": "cmd 11: form", "apply 1 2": "cmd 12: form", "shelve ": "cmd 13: form",
		"rebase": "cmd 14: form", "rebase x\nnope": "cmd 14: form", "rebase 0\npick": "cmd 14: line 0: form", "rebase 1\n\nnope 1": "cmd 14: line 1: name", "rebase 0\n": "cmd 14: arg", "rebase 1 pick 1": "cmd 14: form",
		"continue x": "cmd 15: form", "skip ": "cmd 16: form", "abort\n": "cmd 17: form", "undo 1": "cmd 18: form", "redo  ": "cmd 19: form",
	} {
		got, err := cmd.Parse(s)
		var f *api.Fault
		if !errors.As(err, &f) || err.Error() != want || !cmd.Same(got, cmd.Cmd{}) {
			t.Errorf("Parse(%q): %+v, %v, want %s", s, got, err, want)
		}
	}
}

func TestCheckRefuses(t *testing.T) {
	long := strings.Repeat("x", 257)
	pick := todo.Step{Verb: "pick", Commit: 1}
	many := slices.Repeat(steps(pick), 33)
	rebase := func(n int, l ...todo.Step) cmd.Cmd { return cmd.Cmd{Verb: "rebase", N: n, Todo: l} }
	for i, c := range []struct {
		c    cmd.Cmd
		want string
	}{
		{cmd.Cmd{}, "cmd -1: name"}, {cmd.Cmd{Verb: "rm"}, "cmd 1: name"}, {cmd.Cmd{Verb: "branch"}, "cmd 3: name"}, {cmd.Cmd{Verb: "delete"}, "cmd 4: name"}, {cmd.Cmd{Verb: "merge"}, "cmd 7: name"}, {cmd.Cmd{Verb: "reset", N: 1}, "cmd 6: name"}, {cmd.Cmd{Verb: "switch"}, "cmd 5: arg"},
		{cmd.Cmd{Verb: "pop", N: -1}, "cmd 11: arg"}, {cmd.Cmd{Verb: "apply", N: -1}, "cmd 12: arg"}, {cmd.Cmd{Verb: "shelve", N: math.MinInt}, "cmd 13: arg"}, {cmd.Cmd{Verb: "pick"}, "cmd 8: arg"}, {cmd.Cmd{Verb: "revert"}, "cmd 9: arg"}, {cmd.Cmd{Verb: "pick", N: math.MaxInt}, ""},
		{cmd.Cmd{Verb: "commit"}, "cmd 2: arg"}, {cmd.Cmd{Verb: "commit", Text: long + "\n"}, "cmd 2: long"}, {cmd.Cmd{Verb: "commit", Text: "a\n"}, "cmd 2: form"}, {cmd.Cmd{Verb: "stash", Text: long}, "cmd 10: long"}, {cmd.Cmd{Verb: "stash", Text: "\n"}, "cmd 10: form"},
		{rebase(0, many...), "cmd 14: arg"}, {rebase(1, many...), "cmd 14: long"}, {rebase(1, many[1:]...), ""}, {rebase(1, pick, todo.Step{Verb: "nope"}), "cmd 14: name"}, {rebase(1, todo.Step{Verb: "drop"}), "cmd 14: arg"}, {rebase(1, todo.Step{Verb: "drop", Commit: 1000001}), "cmd 14: arg"}, {rebase(1, todo.Step{Verb: "squash", Commit: 1000000, Text: long}), ""},
		{rebase(1, todo.Step{Verb: "reword", Commit: 1, Text: long}), "cmd 14: long"}, {rebase(1, todo.Step{Verb: "reword", Commit: 1}), "cmd 14: arg"}, {rebase(1, todo.Step{Verb: "reword", Commit: 1, Text: "a\n"}), "cmd 14: form"}, {rebase(1, todo.Step{Verb: "reword"}, todo.Step{}), "cmd 14: arg"},
	} {
		err := cmd.Check(c.c)
		if c.want == "" && err != nil || c.want != "" && (err == nil || err.Error() != c.want) {
			t.Errorf("%d: %v, want %q", i, err, c.want)
		}
	}
}

func TestSame(t *testing.T) {
	all := []cmd.Cmd{{}, {Verb: "a"}, {Name: "a"}, {N: 1}, {Text: "a"}, {Force: true}, {Todo: steps(todo.Step{})}, {Todo: steps(todo.Step{Text: "a"})}}
	for i, a := range all {
		for k, b := range all {
			if cmd.Same(a, b) != (i == k) {
				t.Errorf("%d, %d", i, k)
			}
		}
	}
	if !cmd.Same(cmd.Cmd{}, cmd.Cmd{Todo: []todo.Step{}}) {
		t.Error("nil and empty")
	}
}

func FuzzParse(f *testing.F) {
	for _, s := range []string{"add a", "rebase 3\npick 1\n", "switch a -f", "reset hard 3", "commit x"} {
		f.Add(s)
	}
	f.Fuzz(func(t *testing.T, s string) {
		c, err := cmd.Parse(s)
		if err != nil {
			return
		}
		if again, err := cmd.Parse(cmd.Text(c)); err != nil || !cmd.Same(again, c) {
			t.Errorf("%q: %+v", s, c)
		}
	})
}
