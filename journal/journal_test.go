package journal_test

import (
	"bytes"
	"strconv"
	"strings"
	"testing"

	"recto/api"
	"recto/journal"
	"recto/simfs"
)

const dir = ".j/x"

func put(p, data string) journal.Change {
	return journal.Change{Path: p, Mode: api.Plain, Data: []byte(data)}
}

func gone(p string) journal.Change { return journal.Change{Path: p, Gone: true, Mode: -7} }

func want(t *testing.T, what string, got, want api.Errno) {
	t.Helper()
	if got != want {
		t.Errorf("%s: %v, want %v", what, got, want)
	}
}

func shown(t *testing.T, f *simfs.FS) string {
	t.Helper()
	var b strings.Builder
	l, err := f.List()
	want(t, "List", err, api.OK)
	for _, p := range l {
		d, _ := f.Read(p)
		s, _ := f.Stat(p)
		b.WriteString(p + "=" + string(d) + "," + strconv.Itoa(s.Mode) + " ")
	}
	return strings.TrimSpace(b.String())
}

func checkIdle(t *testing.T, f *simfs.FS) {
	t.Helper()
	if idle, err := journal.Idle(f, dir); !idle || err != api.OK {
		t.Errorf("Idle: %v, %v", idle, err)
	}
	n := f.Ops()
	want(t, "another Recover", journal.Recover(f, dir), api.OK)
	if f.Ops() != n {
		t.Error("another Recover does something")
	}
}

func TestCheck(t *testing.T) {
	var many []journal.Change
	for i := range 256 {
		many = append(many, gone("f"+strconv.Itoa(i)))
	}
	big := make([]byte, 65537)
	for i, c := range []struct {
		dir  string
		l    []journal.Change
		want api.Errno
	}{
		{"a", nil, api.OK}, {"", nil, api.ErrName}, {"A", nil, api.ErrName}, {strings.Repeat("a", 16), nil, api.OK}, {strings.Repeat("a", 17), nil, api.ErrName}, {strings.Repeat("a", 65), nil, api.ErrName},
		{"a", []journal.Change{put("b", ""), gone("c/d")}, api.OK},
		{"a", []journal.Change{gone("")}, api.ErrName}, {"a", []journal.Change{gone("a")}, api.ErrName}, {"a", []journal.Change{gone("a/b")}, api.ErrName}, {"a/b", []journal.Change{put("a", "")}, api.ErrName},
		{"a", []journal.Change{gone(strings.Repeat("b", 65))}, api.ErrLong},
		{"a", []journal.Change{gone("b"), {Path: "b", Mode: 9}}, api.ErrTwice}, {"a", []journal.Change{{Path: "b", Mode: 3, Data: big}}, api.ErrArg}, {"a", []journal.Change{{Path: "b"}, gone("b")}, api.ErrArg},
		{"a", []journal.Change{{Path: "b", Mode: api.Run, Data: big[:65536]}}, api.OK}, {"a", []journal.Change{{Path: "b", Mode: api.Run, Data: big}, gone("")}, api.ErrLong},
		{"a", many, api.OK}, {"a", append(many[:256:256], gone("x")), api.ErrLong}, {"a", append(many[:256:256], gone("f7")), api.ErrTwice}, {"a", append(many[:256:256], put("a", "")), api.ErrName},
	} {
		want(t, "Check "+strconv.Itoa(i), journal.Check(c.dir, c.l...), c.want)
		f := simfs.New(0)
		want(t, "Do "+strconv.Itoa(i), journal.Do(f, c.dir, c.l...), c.want)
		if c.want != api.OK && f.Ops() != 0 {
			t.Error("what is refused does something")
		}
	}
}

func TestDo(t *testing.T) {
	f := simfs.New(0)
	f.Edit("a/b", api.Plain, []byte("old"))
	f.Edit("c", api.Run, []byte("old"))
	f.Edit("other", api.Run, []byte("o"))
	data := []byte("new")
	want(t, "Do", journal.Do(f, dir, journal.Change{Path: "a", Mode: api.Run, Data: data}, gone("a/b"), put("c", ""), put("d/e", "x"), gone("none")), api.OK)
	data[0] = 'x'
	f.Cut()
	f.On()
	if got := shown(t, f); got != "a=new,2 c=,1 d/e=x,1 other=o,2" {
		t.Error(got)
	}
	checkIdle(t, f)
	want(t, "the other way round", journal.Do(f, dir, put("a/b", "1"), gone("a"), put("d", "2"), gone("d/e")), api.OK)
	if got := shown(t, f); got != "a/b=1,1 c=,1 d=2,1 other=o,2" {
		t.Error(got)
	}
	want(t, "nothing", journal.Do(f, dir), api.OK)
	checkIdle(t, f)
}

func TestDoRefusesWays(t *testing.T) {
	f := simfs.New(0)
	f.Edit("a", api.Plain, nil)
	f.Edit("b/c", api.Plain, nil)
	ahead := shown(t, f)
	for _, l := range [][]journal.Change{{put("a/x", "")}, {put("b", "")}, {put("n", ""), put("n/m", "")}, {gone("a"), put("b/c/d", "")}} {
		want(t, "Do", journal.Do(f, dir, l...), api.ErrWay)
		if shown(t, f) != ahead {
			t.Error("what is refused does something")
		}
		checkIdle(t, f)
	}
	for _, p := range []string{".j", ".j/x"} {
		g := simfs.New(0)
		g.Edit(p, api.Plain, nil)
		checkIdle(t, g)
		want(t, "Do", journal.Do(g, dir, put("y", "")), api.ErrWay)
		if shown(t, g) != p+"=,1" {
			t.Error("a file in the journal's way is touched")
		}
	}
}

func TestDoWantsRoom(t *testing.T) {
	l := []journal.Change{put("a", strings.Repeat("x", 3000)), put("b", strings.Repeat("y", 3000)), gone("c")}
	room := 500 + 2*6000 + 3*128 + 4096
	f := simfs.New(room)
	f.Edit("c", api.Plain, bytes.Repeat([]byte("z"), 500))
	want(t, "with room", journal.Do(f.Twin(), dir, l...), api.OK)
	for _, q := range []int{500, 3000, 6000, 6500} {
		g := f.Twin()
		g.Quota(q)
		ahead := shown(t, g)
		want(t, "without room", journal.Do(g, dir, l...), api.ErrQuota)
		if shown(t, g) != ahead {
			t.Error("what is refused does something")
		}
		checkIdle(t, g)
	}
}

func TestDownAndNames(t *testing.T) {
	f := simfs.New(0)
	f.Cut()
	want(t, "Do", journal.Do(f, dir, put("a", "")), api.ErrDown)
	want(t, "Do checks first", journal.Do(f, dir, put("A", "")), api.ErrName)
	want(t, "Recover", journal.Recover(f, dir), api.ErrDown)
	want(t, "Recover", journal.Recover(f, "A"), api.ErrName)
	idle, err := journal.Idle(f, dir)
	want(t, "Idle", err, api.ErrDown)
	if idle {
		t.Error("Idle beside an error")
	}
	idle, err = journal.Idle(f, strings.Repeat("a", 17))
	want(t, "Idle", err, api.ErrName)
	if idle {
		t.Error("Idle beside an error")
	}
}

func masks(n int) [][]bool {
	var all [][]bool
	for m := range 1 << n {
		keep := make([]bool, n)
		for i := range keep {
			keep[i] = m>>i&1 == 1
		}
		all = append(all, keep)
	}
	return all
}

// crashes does run on twins of f, cut at each op, with each choice of what is kept, and hands on what then is there.
func crashes(f *simfs.FS, run func(f *simfs.FS) api.Errno, behind func(g *simfs.FS)) {
	whole := f.Twin()
	run(whole)
	for n := 1; n <= whole.Ops()-f.Ops(); n++ {
		for _, keep := range masks(min(n-1, 6)) {
			g := f.Twin()
			g.Arm(n, keep...)
			if run(g) != api.ErrDown {
				panic("not cut")
			}
			g.On()
			behind(g)
		}
	}
}

func TestACutDoIsWholeOrNot(t *testing.T) {
	f := simfs.New(0)
	f.Edit("a/b", api.Plain, []byte("old"))
	f.Edit("c", api.Run, []byte("old"))
	f.Edit("other", api.Run, []byte("o"))
	ahead := shown(t, f)
	do := func(g *simfs.FS) api.Errno {
		return journal.Do(g, dir, put("a", "new"), gone("a/b"), put("c", "new"), gone("none"))
	}
	mend := func(g *simfs.FS) api.Errno { return journal.Recover(g, dir) }
	done := f.Twin()
	want(t, "Do", do(done), api.OK)
	after := shown(t, done)
	none, all := 0, 0
	check := func(g *simfs.FS) {
		g.Quota(1) // Recover wants no room
		want(t, "Recover", mend(g), api.OK)
		g.Cut()
		g.On()
		switch got := shown(t, g); got {
		case ahead:
			none++
		case after:
			all++
		default:
			t.Errorf("neither: %s", got)
		}
		checkIdle(t, g)
	}
	crashes(f, do, func(g *simfs.FS) {
		check(g.Twin())
		crashes(g, mend, func(h *simfs.FS) {
			check(h.Twin())
			crashes(h, mend, check)
		})
		again := g.Twin()
		want(t, "a Do recovers ahead", journal.Do(again, dir, put("z", "")), api.OK)
		if got := shown(t, again); got != ahead+" z=,1" && got != after+" z=,1" {
			t.Errorf("neither: %s", got)
		}
	})
	if none == 0 || all == 0 {
		t.Errorf("%d as ahead, %d as behind", none, all)
	}
}

// edits tells what a user may do to p: other bytes, those that were there or are to be there, none.
func edits(p string) []func(f *simfs.FS) string {
	var l []func(f *simfs.FS) string
	for _, data := range []string{"mine", "old", "new"} {
		l = append(l, func(f *simfs.FS) string {
			if f.Edit(p, api.Run, []byte(data)) != api.OK {
				return ""
			}
			return p + "=" + data + ",2"
		})
	}
	return append(l, func(f *simfs.FS) string {
		if _, err := f.Stat(p); err != api.OK {
			return ""
		}
		f.Unlink(p)
		return "none"
	})
}

// without tells what is shown but for p.
func without(shown, p string) string {
	var out []string
	for _, w := range strings.Fields(shown) {
		if !strings.HasPrefix(w, p+"=") {
			out = append(out, w)
		}
	}
	return strings.Join(out, " ")
}

func TestTheUsersEditsAreKept(t *testing.T) {
	f := simfs.New(0)
	for _, p := range []string{"a", "d", "other"} {
		f.Edit(p, api.Plain, []byte("old"))
	}
	do := func(g *simfs.FS) api.Errno {
		return journal.Do(g, dir, put("a", "new"), put("b", "new"), gone("d"))
	}
	mend := func(g *simfs.FS) api.Errno { return journal.Recover(g, dir) }
	done := f.Twin()
	do(done)
	ahead, after := shown(t, f), shown(t, done)
	crashes(f, do, func(g *simfs.FS) {
		for _, p := range []string{"a", "b", "d", "other", "fresh"} {
			for _, edit := range edits(p) {
				h := g.Twin()
				edited := edit(h)
				check := func(h *simfs.FS) {
					want(t, "Recover", mend(h), api.OK)
					checkIdle(t, h)
					got := shown(t, h)
					rest := without(got, p)
					if rest != without(ahead, p) && rest != without(after, p) {
						t.Errorf("the rest is not wholly: %s", got)
					}
					if has := strings.Contains(" "+got+" ", " "+edited+" "); edited != "" && edited != "none" && !has || edited == "none" && rest != got {
						t.Errorf("%s: edited to %s: %s", p, edited, got)
					}
				}
				check(h.Twin())
				if edited != "none" {
					crashes(h, mend, check)
				}
			}
		}
	})
}

func TestAnEditInTheWay(t *testing.T) {
	f := simfs.New(0)
	f.Edit("a", api.Plain, []byte("old"))
	crashes(f, func(g *simfs.FS) api.Errno { return journal.Do(g, dir, put("a", "new"), put("b", "new")) }, func(g *simfs.FS) {
		g.Edit("b/x", api.Plain, []byte("mine"))
		want(t, "Recover", journal.Recover(g, dir), api.OK)
		checkIdle(t, g)
		if got := shown(t, g); !strings.HasPrefix(got, "a=") || !strings.HasSuffix(got, " b/x=mine,1") && !strings.HasSuffix(got, " b=new,1") {
			t.Error(got)
		}
	})
}

func TestAnyFilesUnderDirEnd(t *testing.T) {
	good := []byte{2, 2, 2, 'q', 2} // a plan: q, Plain
	for _, b := range [][]byte{nil, {0}, {1}, {255}, {200, 1}, {0, 0}, {2, 1}, {8, 2, 2, 'q', 2}, good, good[:4], append(good, 0), {2, 2, 0, 0}, {2, 2, 2, 'q', 9}, {2, 4, 2, 'q', 0, 2, 'q', 0}, {0, 2, 8, '.', 'j', '/', 'x', 0}} {
		f := simfs.New(0)
		f.Edit(dir+"/plan", api.Plain, b)
		f.Edit(dir+"/new0", api.Run, []byte("staged"))
		f.Edit(dir+"/old0", api.Run, []byte("old"))
		f.Edit(dir+"/some/thing", api.Run, nil)
		if idle, err := journal.Idle(f, dir); idle || err != api.OK {
			t.Errorf("%v: Idle: %v, %v", b, idle, err)
		}
		want(t, "Recover", journal.Recover(f, dir), api.OK)
		checkIdle(t, f)
	}
}
