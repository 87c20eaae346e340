package patch_test

import (
	"errors"
	"math"
	"math/rand"
	"reflect"
	"slices"
	"strings"
	"testing"

	"recto/api"
	"recto/diff"
	"recto/patch"
)

// edits reads "=a-b+c": an op and a line each.
func edits(s string) []diff.Edit {
	var l []diff.Edit
	for i := 0; i < len(s); i += 2 {
		l = append(l, diff.Edit{Op: strings.IndexByte("?=-+", s[i]), Line: s[i+1 : i+2]})
	}
	return l
}

func hunk(at, del, to, add int, s string) patch.Hunk {
	return patch.Hunk{At: at, Del: del, To: to, Add: add, Lines: edits(s)}
}

func cut(s string) []string {
	var l []string
	for i := range len(s) {
		l = append(l, s[i:i+1])
	}
	return l
}

func TestHunks(t *testing.T) {
	for i, c := range []struct {
		l      string
		around int
		want   []patch.Hunk
	}{
		{"", 3, nil}, {"=a=b", 3, nil}, {"-a", 3, []patch.Hunk{hunk(0, 1, 0, 0, "-a")}},
		{"=a=b-c=d=e", 1, []patch.Hunk{hunk(1, 3, 1, 2, "=b-c=d")}},
		{"=a=b-c+x=d=e", 0, []patch.Hunk{hunk(2, 1, 2, 1, "-c+x")}},
		{"=a=b-c+x=d=e", -4, []patch.Hunk{hunk(2, 1, 2, 1, "-c+x")}},
		{"-a=b+c", 0, []patch.Hunk{hunk(0, 1, 0, 0, "-a"), hunk(2, 0, 1, 1, "+c")}},
		{"-a=b+c", 1, []patch.Hunk{hunk(0, 2, 0, 2, "-a=b+c")}},
		{"-a=b=c+d", 1, []patch.Hunk{hunk(0, 3, 0, 3, "-a=b=c+d")}},
		{"-a=b=c=d+e", 1, []patch.Hunk{hunk(0, 2, 0, 1, "-a=b"), hunk(3, 1, 2, 2, "=d+e")}},
	} {
		if got := patch.Hunks(edits(c.l), c.around); !reflect.DeepEqual(got, c.want) {
			t.Errorf("%d: %+v", i, got)
		}
	}
	long := strings.Repeat("=k", 20) + "-a" + strings.Repeat("=k", 20)
	if got := patch.Hunks(edits(long), 1000); len(got) != 1 || got[0].At != 4 || len(got[0].Lines) != 33 {
		t.Errorf("around is not cut: %+v", got)
	}
}

func TestApplyRefuses(t *testing.T) {
	a := cut("abc")
	good := hunk(0, 1, 0, 1, "-a+x")
	for i, c := range []struct {
		h    []patch.Hunk
		at   int
		want api.Errno
	}{
		{[]patch.Hunk{hunk(9, 9, 9, 9, "=a?b")}, 0, api.ErrForm}, {[]patch.Hunk{good, {Lines: []diff.Edit{{Op: 4}}}}, 1, api.ErrForm}, {[]patch.Hunk{{Lines: []diff.Edit{{Op: -1}}}}, 0, api.ErrForm},
		{[]patch.Hunk{hunk(0, 2, 0, 1, "-a+x")}, 0, api.ErrArg}, {[]patch.Hunk{hunk(0, 1, 0, 0, "-a+x")}, 0, api.ErrArg}, {[]patch.Hunk{hunk(-1, 1, -1, 1, "-a+x")}, 0, api.ErrArg},
		{[]patch.Hunk{hunk(0, -1, 0, 0, "")}, 0, api.ErrArg}, {[]patch.Hunk{hunk(1, 1, 0, 1, "-b+x")}, 0, api.ErrArg}, {[]patch.Hunk{good, hunk(0, 1, 0, 0, "-a")}, 1, api.ErrArg},
		{[]patch.Hunk{hunk(0, 1, 0, 2, "-a+x+y"), hunk(2, 1, 2, 1, "=c")}, 1, api.ErrArg}, {[]patch.Hunk{hunk(9, 1, 8, 1, "=z")}, 0, api.ErrArg},
		{[]patch.Hunk{hunk(0, 1, 0, 2, "=a+x"), hunk(math.MaxInt, 0, math.MaxInt, 0, "")}, 1, api.ErrArg}, {[]patch.Hunk{hunk(0, 1, 0, 2, "=a+x"), hunk(math.MaxInt, 0, math.MinInt, 0, "")}, 1, api.ErrArg},
		{[]patch.Hunk{hunk(3, 1, 3, 1, "=z")}, 0, api.ErrLong}, {[]patch.Hunk{hunk(4, 0, 4, 0, "")}, 0, api.ErrLong}, {[]patch.Hunk{hunk(math.MaxInt, 1, math.MaxInt, 0, "-a")}, 0, api.ErrLong}, {[]patch.Hunk{hunk(2, 2, 2, 2, "=x=y")}, 0, api.ErrLong},
		{[]patch.Hunk{hunk(0, 1, 0, 1, "=b")}, 0, api.ErrConflict}, {[]patch.Hunk{hunk(0, 2, 0, 3, "=a+x=z")}, 0, api.ErrConflict}, {[]patch.Hunk{hunk(1, 1, 1, 0, "-a")}, 0, api.ErrConflict}, {[]patch.Hunk{hunk(0, 1, 0, 1, "=b"), hunk(0, 0, 0, 0, "?a")}, 0, api.ErrConflict},
	} {
		got, err := patch.Apply(a, c.h...)
		var f *api.Fault
		if !errors.As(err, &f) || f.Part != "hunk" || f.At != c.at || f.Err != c.want || got != nil {
			t.Errorf("%d: %q, %v", i, got, err)
		}
	}
}

func TestApply(t *testing.T) {
	a := cut("abc")
	for i, c := range []struct {
		h    []patch.Hunk
		want string
	}{
		{nil, "abc"}, {[]patch.Hunk{hunk(3, 0, 3, 1, "+d")}, "abcd"}, {[]patch.Hunk{hunk(3, 0, 3, 0, "")}, "abc"}, {[]patch.Hunk{hunk(0, 3, 0, 0, "-a-b-c")}, ""},
		{[]patch.Hunk{hunk(0, 1, 0, 2, "-a+x+y"), hunk(2, 1, 3, 0, "-c")}, "xyb"}, {[]patch.Hunk{hunk(0, 1, 0, 1, "=a"), hunk(1, 2, 1, 3, "=b+x=c")}, "abxc"},
	} {
		got, err := patch.Apply(a, c.h...)
		if err != nil || strings.Join(got, "") != c.want {
			t.Errorf("%d: %q, %v", i, got, err)
		}
	}
	room := cut("abcdef")
	got, _ := patch.Apply(room[:2], hunk(2, 0, 2, 1, "+x"))
	_ = append(got, "y", "z")
	if strings.Join(room, "") != "abcdef" {
		t.Error("Apply writes into what it was handed")
	}
}

func TestTurned(t *testing.T) {
	got := patch.Turned(hunk(3, 3, 5, 4, "-a+x+y-b=c+z"))
	if !reflect.DeepEqual(got, []patch.Hunk{hunk(5, 4, 3, 3, "-x-y+a+b=c-z")}) {
		t.Errorf("%+v", got)
	}
	if len(patch.Turned()) != 0 {
		t.Error("of none")
	}
}

func TestText(t *testing.T) {
	h := patch.Hunk{At: 10, Del: 2, To: 0, Add: 3, Lines: []diff.Edit{{Op: diff.Keep, Line: "a\n"}, {Op: diff.Del, Line: "b"}, {Op: diff.Add, Line: "\n"}, {Op: diff.Add, Line: ""}}}
	if got := patch.Text(h, hunk(1, 1, 2, 0, "-q")); got != "@@ -10,2 +0,3 @@\n a\n-b\n+\n+\n@@ -1,1 +2,0 @@\n-q\n" {
		t.Errorf("%q", got)
	}
	if patch.Text() != "" {
		t.Error("of none")
	}
}

func TestThereAndBack(t *testing.T) {
	r := rand.New(rand.NewSource(2))
	text := func() []string {
		l := make([]string, r.Intn(30))
		for i := range l {
			l[i] = string("abcd"[r.Intn(4)])
		}
		return l
	}
	for range 1000 {
		a, b := text(), text()
		l, _ := diff.Lines(a, b)
		h := patch.Hunks(l, r.Intn(4))
		got, err := patch.Apply(a, h...)
		if err != nil || !slices.Equal(got, b) {
			t.Fatalf("%q to %q: %q, %v", a, b, got, err)
		}
		back, err := patch.Apply(b, patch.Turned(h...)...)
		if err != nil || !slices.Equal(back, a) {
			t.Fatalf("%q back to %q: %q, %v", b, a, back, err)
		}
	}
}
