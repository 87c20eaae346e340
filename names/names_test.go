package names_test

import (
	"slices"
	"strconv"
	"strings"
	"testing"

	"recto/api"
	"recto/names"
)

func want(t *testing.T, what string, got, want api.Errno) {
	t.Helper()
	if got != want {
		t.Errorf("%s: %v, want %v", what, got, want)
	}
}

func full(t *testing.T) *names.Table {
	t.Helper()
	n := names.New()
	for i := range 64 {
		want(t, "Set", n.Set("b"+strconv.Itoa(i), i+1), api.OK)
	}
	return n
}

func TestGood(t *testing.T) {
	for name, w := range map[string]bool{
		"a": true, "z9-": true, strings.Repeat("a", 32): true, strings.Repeat("a", 33): false,
		"": false, "9a": false, "-a": false, "A": false, "aB": false, "a_b": false, "a.b": false, "a/b": false, "a b": false, "aé": false, "a\n": false,
	} {
		if names.Good(name) != w {
			t.Errorf("Good(%q)", name)
		}
	}
	for c := range 256 {
		s := string([]byte{byte(c)})
		w := strings.Contains("abcdefghijklmnopqrstuvwxyz0123456789-", s)
		if names.Good("a"+s) != w {
			t.Errorf("byte %d", c)
		}
	}
}

func TestSetGetRow(t *testing.T) {
	n := names.New()
	if len(n.Row()) != 0 || n.Head() != (names.Head{Branch: "main"}) {
		t.Error("a new Table")
	}
	want(t, "name", n.Set("A", 0), api.ErrName)
	want(t, "commit", n.Set("a", 0), api.ErrArg)
	want(t, "Set", n.Set("b", 2), api.OK)
	want(t, "Set", n.Set("a", 1), api.OK)
	want(t, "Set", n.Set("b", 3), api.OK)
	row := n.Row()
	if !slices.Equal(row, []names.Ref{{Name: "a", Commit: 1}, {Name: "b", Commit: 3}}) {
		t.Errorf("%v", row)
	}
	row[0].Commit = 9
	if c, there := n.Get("a"); c != 1 || !there {
		t.Error("Row shares its answer")
	}
	if c, there := n.Get("c"); c != 0 || there {
		t.Error("Get of none")
	}
	f := full(t)
	want(t, "one more", f.Set("c", 1), api.ErrLong)
	want(t, "a number first", f.Set("c", 0), api.ErrArg)
	want(t, "one that is there", f.Set("b7", 1), api.OK)
}

func TestSwap(t *testing.T) {
	n := full(t)
	n.Attach("b0")
	want(t, "name", n.Swap("", -1, 0), api.ErrName)
	want(t, "from", n.Swap("c", -1, 0), api.ErrArg)
	want(t, "to", n.Swap("c", 5, -1), api.ErrArg)
	want(t, "not from", n.Swap("b1", 1, 0), api.ErrState)
	want(t, "there", n.Swap("b1", 0, 5), api.ErrState)
	want(t, "not there", n.Swap("c", 5, 6), api.ErrState)
	want(t, "nothing", n.Swap("c", 0, 0), api.OK)
	want(t, "a new one", n.Swap("c", 0, 1), api.ErrLong)
	want(t, "Head's", n.Swap("b0", 1, 0), api.ErrState)
	want(t, "to another", n.Swap("b0", 1, 7), api.OK)
	want(t, "deleted", n.Swap("b1", 2, 0), api.OK)
	want(t, "made", n.Swap("c", 0, 9), api.OK)
	if c, _ := n.Get("b0"); c != 7 {
		t.Error(c)
	}
	if _, there := n.Get("b1"); there {
		t.Error("it is there")
	}
	if c, _ := n.Get("c"); c != 9 {
		t.Error(c)
	}
}

func TestDelete(t *testing.T) {
	n := names.New()
	want(t, "none", n.Delete("main"), api.ErrName)
	n.Set("main", 1)
	n.Set("a", 1)
	want(t, "Head's", n.Delete("main"), api.ErrState)
	want(t, "a", n.Delete("a"), api.OK)
	want(t, "a again", n.Delete("a"), api.ErrName)
	n.Detach(1)
	want(t, "no more Head's", n.Delete("main"), api.OK)
	want(t, "none", n.Delete(""), api.ErrName)
}

func TestHead(t *testing.T) {
	n := names.New()
	want(t, "Move", n.Move(0), api.ErrArg)
	want(t, "Move", n.Move(3), api.OK)
	if c, _ := n.Get("main"); c != 3 || n.Head() != (names.Head{Branch: "main", Commit: 3}) {
		t.Errorf("%v", n.Head())
	}
	want(t, "Attach", n.Attach("no/name"), api.ErrName)
	want(t, "Detach", n.Detach(0), api.ErrArg)
	want(t, "Detach", n.Detach(2), api.OK)
	if n.Head() != (names.Head{Commit: 2}) {
		t.Errorf("%v", n.Head())
	}
	want(t, "Move", n.Move(-1), api.ErrArg)
	want(t, "Move", n.Move(5), api.OK)
	if c, _ := n.Get("main"); c != 3 || n.Head() != (names.Head{Commit: 5}) {
		t.Errorf("%v", n.Head())
	}
	want(t, "Attach", n.Attach("new"), api.OK)
	if n.Head() != (names.Head{Branch: "new"}) {
		t.Errorf("%v", n.Head())
	}
	f := full(t)
	want(t, "one more", f.Move(1), api.ErrLong)
	want(t, "none more", f.Move(0), api.ErrArg)
	if f.Head() != (names.Head{Branch: "main"}) || len(f.Row()) != 64 {
		t.Error("what is refused changes something")
	}
}

func TestTwin(t *testing.T) {
	n := names.New()
	n.Set("a", 1)
	w := n.Twin()
	w.Set("a", 2)
	w.Set("b", 2)
	w.Detach(2)
	if !slices.Equal(n.Row(), []names.Ref{{Name: "a", Commit: 1}}) || n.Head() != (names.Head{Branch: "main"}) {
		t.Error("a twin is not apart")
	}
	n.Detach(1)
	if n.Twin().Head() != (names.Head{Commit: 1}) {
		t.Error("a twin is not as it was")
	}
}
