package simfs_test

import (
	"slices"
	"strings"
	"testing"

	"recto/api"
	"recto/simfs"
)

func want(t *testing.T, what string, got, want api.Errno) {
	t.Helper()
	if got != want {
		t.Errorf("%s: %v, want %v", what, got, want)
	}
}

// shown tells all files: PATH=BYTES, rising.
func shown(t *testing.T, f *simfs.FS) string {
	t.Helper()
	var b strings.Builder
	l, err := f.List()
	want(t, "List", err, api.OK)
	for _, p := range l {
		d, err := f.Read(p)
		want(t, "Read", err, api.OK)
		b.WriteString(p + "=" + string(d) + " ")
	}
	return strings.TrimSpace(b.String())
}

func TestWriteRefuses(t *testing.T) {
	f := simfs.New(100)
	big := make([]byte, 65537)
	want(t, "a/b", f.Write("a/b", api.Plain, make([]byte, 60)), api.OK)
	want(t, "long path", f.Write(strings.Repeat("a", 65), 0, big), api.ErrLong)
	want(t, "bad path", f.Write("A", 0, big), api.ErrName)
	want(t, "long file", f.Write("a", 0, big), api.ErrLong)
	want(t, "mode", f.Write("a", 0, nil), api.ErrArg)
	want(t, "mode", f.Write("a", 3, nil), api.ErrArg)
	want(t, "folder", f.Write("a", api.Plain, big[:65536]), api.ErrWay)
	want(t, "under a file", f.Write("a/b/c", api.Plain, nil), api.ErrWay)
	want(t, "quota", f.Write("c", api.Plain, make([]byte, 41)), api.ErrQuota)
	want(t, "at the quota", f.Write("c", api.Plain, make([]byte, 40)), api.OK)
	want(t, "greater than it was", f.Write("c", api.Plain, make([]byte, 41)), api.ErrQuota)
	want(t, "as many", f.Write("c", api.Run, make([]byte, 40)), api.OK)
	want(t, "none", f.Write("d", api.Plain, nil), api.OK)
	f.Quota(10)
	want(t, "as many above it", f.Write("c", api.Plain, make([]byte, 40)), api.OK)
	want(t, "fewer", f.Write("c", api.Plain, make([]byte, 39)), api.OK)
	want(t, "one", f.Write("d", api.Plain, make([]byte, 1)), api.ErrQuota)
	f.Quota(-1)
	want(t, "the greatest", f.Write("d", api.Plain, big[:65536]), api.OK)
	if f.Used() != 60+39+65536 || f.Ops() != 7 || f.Pending() != 7 {
		t.Errorf("%d used, %d ops, %d pending", f.Used(), f.Ops(), f.Pending())
	}
}

func TestStatTellsTimesAndInodes(t *testing.T) {
	f := simfs.New(0)
	f.Write("a", api.Plain, []byte("x"))
	f.Tick()
	f.Edit("b", api.Run, []byte("yy"))
	f.Tick()
	f.Write("a", api.Run, nil)
	f.Remove("b")
	f.Write("b", api.Plain, []byte("z"))
	for p, s := range map[string]simfs.Stat{"a": {Size: 0, Time: 2, Inode: 1, Mode: api.Run}, "b": {Size: 1, Time: 2, Inode: 3, Mode: api.Plain}} {
		if got, err := f.Stat(p); got != s || err != api.OK {
			t.Errorf("%s: %+v, %v", p, got, err)
		}
	}
	f.Tick()
	want(t, "Rename", f.Rename("a", "b"), api.OK)
	if got, _ := f.Stat("b"); got != (simfs.Stat{Time: 2, Inode: 1, Mode: api.Run}) || f.Now() != 3 {
		t.Errorf("renamed: %+v at %d", got, f.Now())
	}
	if s, err := f.Stat("a"); s != (simfs.Stat{}) || err != api.ErrName {
		t.Errorf("gone: %+v, %v", s, err)
	}
	if b, err := f.Read("a"); b != nil || err != api.ErrName {
		t.Errorf("gone: %v, %v", b, err)
	}
}

func TestRenameAndRemove(t *testing.T) {
	f := simfs.New(0)
	f.Write("a", api.Plain, []byte("1"))
	f.Write("b/c", api.Plain, []byte("2"))
	want(t, "no such", f.Rename("x", "A"), api.ErrName)
	want(t, "bad", f.Rename("a", "a/"), api.ErrName)
	want(t, "long", f.Rename("a", strings.Repeat("b", 65)), api.ErrLong)
	want(t, "a folder", f.Rename("a", "b"), api.ErrWay)
	want(t, "under a file", f.Rename("a", "b/c/d"), api.ErrWay)
	n := f.Ops()
	f.Arm(1)
	want(t, "itself", f.Rename("a", "a"), api.OK)
	if f.Ops() != n || f.Off() {
		t.Error("a Rename to itself is an op")
	}
	f.Arm(1000)
	want(t, "under itself", f.Rename("a", "a/b"), api.OK)
	want(t, "and back", f.Rename("a/b", "a"), api.OK)
	want(t, "over", f.Rename("a", "b/c"), api.OK)
	want(t, "no such", f.Remove("a"), api.ErrName)
	if got := shown(t, f); got != "b/c=1" {
		t.Error(got)
	}
	want(t, "Remove", f.Remove("b/c"), api.OK)
	want(t, "Unlink of nothing", f.Unlink("b/c"), api.OK)
	if got := shown(t, f); got != "" {
		t.Error(got)
	}
}

func TestCutKeepsWhatItLikes(t *testing.T) {
	for _, c := range []struct {
		keep []bool
		want string
	}{
		{nil, "a=0 b=0"},
		{[]bool{true}, "a=1 b=0"},
		{[]bool{false, true}, "b=0 c=0"},                      // the older a is renamed
		{[]bool{true, true, true, true, true, true}, "c/d=3"}, // more than there are
		{[]bool{false, false, true, true, true}, "a=0 c/d=3"}, // c is not there; c/d may be
		{[]bool{false, true, false, false, true}, "b=0 c=0"},  // c/d Clashes
		{[]bool{false, false, false, true, false}, "a=0"},
	} {
		f := simfs.New(0)
		f.Write("a", api.Plain, []byte("0"))
		f.Write("b", api.Plain, []byte("0"))
		want(t, "Sync", f.Sync(), api.OK)
		f.Write("a", api.Plain, []byte("1"))
		f.Rename("a", "c")
		f.Remove("c")
		f.Remove("b")
		f.Write("c/d", api.Plain, []byte("3"))
		f.Cut(c.keep...)
		if !f.Off() || f.Pending() != 0 {
			t.Error("the power is on, or something pending")
		}
		f.On()
		if got := shown(t, f); got != c.want {
			t.Errorf("%v: %s, want %s", c.keep, got, c.want)
		}
	}
}

func TestCutGivesWhatAnOpHad(t *testing.T) {
	f := simfs.New(5)
	f.Write("a", api.Plain, []byte("12345"))
	f.Sync()
	f.Tick()
	f.Remove("a")
	f.Write("b", api.Run, []byte("12345"))
	f.Tick()
	f.Cut(false, true) // more than the quota has room for
	f.On()
	if s, _ := f.Stat("b"); s != (simfs.Stat{Size: 5, Time: 1, Inode: 2, Mode: api.Run}) || f.Used() != 10 {
		t.Errorf("%+v, %d used", s, f.Used())
	}
	f.Quota(0)
	f.Write("c", api.Plain, nil)
	if s, _ := f.Stat("c"); s.Inode != 3 {
		t.Errorf("an inode that was had: %d", s.Inode)
	}
}

func TestArmCountsOps(t *testing.T) {
	for _, n := range []int{-3, 0, 1, 2, 3} {
		f := simfs.New(3)
		f.Arm(1)
		keep := []bool{true, false, true}
		f.Arm(n, keep...)
		keep[0] = false
		want(t, "an error is no op", f.Write("z", api.Plain, []byte("1234")), api.ErrQuota)
		want(t, "an error is no op", f.Remove("z"), api.ErrName)
		want(t, "the user's is never armed", f.Edit("u", api.Plain, nil), api.OK)
		var told []api.Errno
		told = append(told, f.Write("a", api.Plain, nil), f.Write("b", api.Plain, nil), f.Rename("a", "c"), f.Sync())
		at := max(n, 1)
		for i, err := range told {
			w := api.OK
			if i >= at-1 {
				w = api.ErrDown
			}
			want(t, "op", err, w)
		}
		f.On()
		wantAll := "u="
		if at > 1 {
			wantAll = "a= u="
		}
		if got := shown(t, f); got != wantAll || f.Ops() != at-1 {
			t.Errorf("%d: %s, %d ops", n, got, f.Ops())
		}
		want(t, "nothing is armed", f.Write("d", api.Plain, nil), api.OK)
	}
}

func TestAllIsDownWithoutPower(t *testing.T) {
	f := simfs.New(0)
	f.Write("a", api.Plain, []byte("1"))
	f.Sync()
	f.Cut()
	want(t, "Write", f.Write("", 0, nil), api.ErrDown)
	want(t, "Rename", f.Rename("x", ""), api.ErrDown)
	want(t, "Remove", f.Remove("x"), api.ErrDown)
	want(t, "Sync", f.Sync(), api.ErrDown)
	want(t, "Edit", f.Edit("", 0, nil), api.ErrDown)
	want(t, "Unlink", f.Unlink("x"), api.ErrDown)
	b, err := f.Read("x")
	want(t, "Read", err, api.ErrDown)
	s, err := f.Stat("x")
	want(t, "Stat", err, api.ErrDown)
	l, err := f.List()
	want(t, "List", err, api.ErrDown)
	if b != nil || s != (simfs.Stat{}) || l != nil || f.Used() != 1 {
		t.Error("something is told without power")
	}
	f.On()
	if f.Off() || shown(t, f) != "a=1" {
		t.Error("it is not back")
	}
}

func TestTheUsersLastsAtOnce(t *testing.T) {
	f := simfs.New(0)
	f.Write("a", api.Plain, []byte("1"))
	want(t, "mode", f.Edit("b", 0, nil), api.ErrArg)
	want(t, "Unlink of nothing", f.Unlink("b"), api.OK)
	if f.Pending() != 1 {
		t.Error("what was refused, or nothing, has synced")
	}
	want(t, "Edit", f.Edit("b", api.Plain, []byte("2")), api.OK)
	if f.Pending() != 0 || f.Ops() != 1 {
		t.Errorf("%d pending, %d ops", f.Pending(), f.Ops())
	}
	f.Write("c", api.Plain, nil)
	f.Unlink("b")
	f.Cut()
	f.On()
	if got := shown(t, f); got != "a=1 c=" {
		t.Error(got)
	}
}

func TestNothingIsShared(t *testing.T) {
	f := simfs.New(0)
	in := []byte("12")
	f.Write("a", api.Plain, in)
	in[0] = 'x'
	out, _ := f.Read("a")
	out[1] = 'x'
	f.Arm(2, true)
	g := f.Twin()
	g.Tick()
	want(t, "op", g.Write("b", api.Plain, nil), api.OK)
	want(t, "armed in the twin too", g.Write("c", api.Plain, nil), api.ErrDown)
	g.On()
	if shown(t, f) != "a=12" || shown(t, g) != "a=12" || f.Now() != 0 || f.Off() || f.Pending() != 1 {
		t.Error("a twin is not apart")
	}
	l, _ := f.List()
	l[0] = "z"
	if again, _ := f.List(); !slices.Equal(again, []string{"a"}) {
		t.Error("List shares its answers")
	}
}
