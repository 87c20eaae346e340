package path_test

import (
	"slices"
	"strings"
	"testing"

	"recto/api"
	"recto/path"
)

func TestCheckTakesOnlyGoodPaths(t *testing.T) {
	long := strings.Repeat("a", api.MaxPath)
	for _, c := range []struct {
		p    string
		want api.Errno
	}{
		{"a", api.OK}, {"a/b/c", api.OK}, {".recto/state", api.OK}, {"...", api.OK}, {"-f", api.OK}, {"_", api.OK}, {"0/9.z", api.OK},
		{long, api.OK}, {long + "a", api.ErrLong}, {strings.Repeat("/", 65), api.ErrLong}, {strings.Repeat("/", 64), api.ErrName},
		{"", api.ErrName}, {"/", api.ErrName}, {"/a", api.ErrName}, {"a/", api.ErrName}, {"a//b", api.ErrName},
		{".", api.ErrName}, {"..", api.ErrName}, {"a/./b", api.ErrName}, {"a/..", api.ErrName},
		{"A", api.ErrName}, {"a b", api.ErrName}, {"a\n", api.ErrName}, {"a\\b", api.ErrName}, {"\xff", api.ErrName}, {"ä", api.ErrName},
	} {
		if got := path.Check(c.p); got != c.want {
			t.Errorf("Check(%q): %v, want %v", c.p, got, c.want)
		}
	}
}

func TestCheckAsksEachByte(t *testing.T) {
	for c := range 256 {
		want := api.ErrName
		if strings.IndexByte("abcdefghijklmnopqrstuvwxyz0123456789.-_/", byte(c)) >= 0 {
			want = api.OK
		}
		if got := path.Check("a" + string([]byte{byte(c)}) + "b"); got != want {
			t.Errorf("byte %d: %v, want %v", c, got, want)
		}
	}
}

func TestPartsAndParent(t *testing.T) {
	for _, c := range []struct {
		p, parent string
		parts     []string
	}{
		{"", "", nil}, {"a", "", []string{"a"}}, {"a/b", "a", []string{"a", "b"}}, {"a/b/c", "a/b", []string{"a", "b", "c"}}, {"/a", "", []string{"", "a"}},
	} {
		if got := path.Parts(c.p); !slices.Equal(got, c.parts) {
			t.Errorf("Parts(%q): %q", c.p, got)
		}
		if got := path.Parent(c.p); got != c.parent {
			t.Errorf("Parent(%q): %q", c.p, got)
		}
	}
}

func TestUnderAndClash(t *testing.T) {
	for _, c := range []struct {
		p, dir       string
		under, clash bool
	}{
		{"a/b", "a", true, true}, {"a/b/c", "a/b", true, true}, {"a/b/c", "a", true, true}, {"a", "a/b", false, true},
		{"a", "a", false, false}, {"ab", "a", false, false}, {"a-b/c", "a", false, false}, {"a/", "a", false, false},
		{"a", "", true, false}, {"", "", false, false}, {"", "a", false, false},
	} {
		if got := path.Under(c.p, c.dir); got != c.under {
			t.Errorf("Under(%q, %q): %v", c.p, c.dir, got)
		}
		if path.Clash(c.p, c.dir) != c.clash || path.Clash(c.dir, c.p) != c.clash {
			t.Errorf("Clash(%q, %q): not %v", c.p, c.dir, c.clash)
		}
	}
}

func TestCompareGoesByBytes(t *testing.T) {
	rising := []string{"", "a", "a-b", "a.b", "a/b", "a0", "ab", "b"}
	for i, a := range rising {
		for k, b := range rising {
			want := min(max(i-k, -1), 1)
			if got := path.Compare(a, b); got != want {
				t.Errorf("Compare(%q, %q): %d", a, b, got)
			}
		}
	}
}
