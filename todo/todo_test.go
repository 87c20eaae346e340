package todo_test

import (
	"errors"
	"slices"
	"strings"
	"testing"

	"recto/api"
	"recto/graph"
	"recto/todo"
)

func TestTextAndParse(t *testing.T) {
	l := []todo.Step{{"pick", 3, ""}, {"reword", 4, "a new  text "}, {"edit", 1000000, ""}, {"squash", 1, ""}, {"fixup", 2, ""}, {"drop", 10, ""}}
	s := "pick 3\nreword 4 a new  text \nedit 1000000\nsquash 1\nfixup 2\ndrop 10\n"
	if got := todo.Text(l); got != s {
		t.Errorf("%q", got)
	}
	if got, err := todo.Parse(s); err != nil || !slices.Equal(got, l) {
		t.Errorf("%v, %v", got, err)
	}
	if got := todo.Text([]todo.Step{{"x", -1, "y"}, {"reword", 0, ""}}); got != "x -1\nreword 0 \n" {
		t.Errorf("of any: %q", got)
	}
	if todo.Text(nil) != "" {
		t.Error("of none")
	}
}

func TestParseTakes(t *testing.T) {
	for s, want := range map[string][]todo.Step{
		"": nil, "\n \n\n": nil, "# pick\n  #\n#x 1 2": nil, "pick 1": {{"pick", 1, ""}}, "pick 9\ndrop 190\nedit 909090": {{"pick", 9, ""}, {"drop", 190, ""}, {"edit", 909090, ""}}, "  pick   1  \n": {{"pick", 1, ""}}, "\n#\npick 7\n\ndrop 8": {{"pick", 7, ""}, {"drop", 8, ""}},
		" reword  5  x": {{"reword", 5, " x"}}, "reword 5  ": {{"reword", 5, " "}}, "reword 5 " + strings.Repeat("x", 256): {{"reword", 5, strings.Repeat("x", 256)}}, "reword 5 # 1": {{"reword", 5, "# 1"}}, "reword 5 \t": {{"reword", 5, "\t"}},
	} {
		if got, err := todo.Parse(s); err != nil || !slices.Equal(got, want) {
			t.Errorf("%q: %v, %v", s, got, err)
		}
	}
}

func TestParseRefuses(t *testing.T) {
	for _, c := range []struct {
		s    string
		at   int
		want api.Errno
	}{
		{"pick", 0, api.ErrForm}, {"nope", 0, api.ErrForm}, {"pick ", 0, api.ErrForm}, {"\n\n#\n pick\nnope 0", 3, api.ErrForm}, {"nope 0", 0, api.ErrName}, {"Pick 1", 0, api.ErrName}, {"\tpick 1", 0, api.ErrName}, {"pick# 1", 0, api.ErrName},
		{"pick 0", 0, api.ErrArg}, {"pick 01", 0, api.ErrArg}, {"pick -1", 0, api.ErrArg}, {"pick +1", 0, api.ErrArg}, {"pick x y", 0, api.ErrArg}, {"pick 1000001", 0, api.ErrArg}, {"pick 99999999999999999999", 0, api.ErrArg}, {"pick 18446744073709551617", 0, api.ErrArg}, {"pick 1x", 0, api.ErrArg}, {"pick 1\t", 0, api.ErrArg}, {"pick 1\r\n", 0, api.ErrArg},
		{"pick 1 2", 0, api.ErrForm}, {"drop 1 #", 0, api.ErrForm}, {"pick 1 \t", 0, api.ErrForm}, {"reword 1", 0, api.ErrForm}, {"reword 1 ", 0, api.ErrForm}, {"reword 0 ", 0, api.ErrArg}, {"reword", 0, api.ErrForm},
		{"reword 1 " + strings.Repeat("x", 257), 0, api.ErrLong}, {"pick 1\nreword 1\n" + strings.Repeat("pick 1\n", 40), 1, api.ErrForm},
		{strings.Repeat("#\npick 1\n", 33), 32, api.ErrLong}, {strings.Repeat("pick 1\n", 32) + "#\npick 0\npick 1", 33, api.ErrArg},
	} {
		got, err := todo.Parse(c.s)
		var f *api.Fault
		if !errors.As(err, &f) || f.Part != "line" || f.At != c.at || f.Err != c.want || got != nil {
			t.Errorf("%q: %v, %v", c.s, got, err)
		}
	}
	if got, err := todo.Parse(strings.Repeat("pick 1\n", 32) + "# \n \n"); err != nil || len(got) != 32 {
		t.Errorf("at the bound: %v", err)
	}
}

func TestCheck(t *testing.T) {
	g := graph.Graph{nil, {1}, {1}, {2, 3}}
	pick := todo.Step{Verb: "pick", Commit: 1}
	long := slices.Repeat([]todo.Step{pick}, 33)
	long[0].Verb = ""
	for i, c := range []struct {
		l    []todo.Step
		at   int
		want api.Errno
	}{
		{nil, 0, api.OK}, {[]todo.Step{{Verb: "pick", Commit: 1}}, 0, api.OK}, {long[1:], 0, api.OK}, {long, 32, api.ErrLong}, {[]todo.Step{pick, {Verb: "Pick", Commit: 9}}, 1, api.ErrName}, {[]todo.Step{{Verb: "", Commit: 1}}, 0, api.ErrName},
		{[]todo.Step{{Verb: "pick"}}, 0, api.ErrArg}, {[]todo.Step{{Verb: "squash", Commit: 5}}, 0, api.ErrArg}, {[]todo.Step{pick, {Verb: "drop", Commit: 4}}, 1, api.ErrArg}, {[]todo.Step{{Verb: "drop", Commit: -3}}, 0, api.ErrArg},
		{[]todo.Step{{Verb: "squash", Commit: 1}, {Verb: "x"}}, 0, api.ErrState}, {[]todo.Step{{Verb: "drop", Commit: 1}, {Verb: "fixup", Commit: 2}}, 1, api.ErrState},
		{[]todo.Step{{Verb: "drop", Commit: 1}, {Verb: "reword", Commit: 3}, {Verb: "fixup", Commit: 2}, {Verb: "squash", Commit: 2}}, 0, api.OK}, {[]todo.Step{{Verb: "drop", Commit: 1}}, 0, api.OK},
	} {
		err := todo.Check(c.l, g)
		var f *api.Fault
		if c.want == api.OK && err != nil || c.want != api.OK && (!errors.As(err, &f) || f.Part != "step" || f.At != c.at || f.Err != c.want) {
			t.Errorf("%d: %v", i, err)
		}
	}
}

func TestTheLastCommitIsOne(t *testing.T) {
	if err := todo.Check([]todo.Step{{Verb: "pick", Commit: 2}}, graph.Graph{nil, {1}}); err != nil {
		t.Error(err)
	}
}

func TestPlain(t *testing.T) {
	g := graph.Graph{nil, {1}, {1}, {2, 3}, {4}, nil}
	for _, c := range []struct {
		onto, from int
		want       string
	}{{3, 5, "pick 2\npick 5\n"}, {5, 3, ""}, {6, 5, "pick 1\npick 2\npick 3\npick 5\n"}, {0, 2, "pick 1\npick 2\n"}, {2, 0, ""}, {1, 4, "pick 2\npick 3\n"}} {
		if got := todo.Text(todo.Plain(g, c.onto, c.from)); got != c.want {
			t.Errorf("Plain(%d, %d): %q", c.onto, c.from, got)
		}
	}
}
