package lines_test

import (
	"slices"
	"testing"

	"recto/lines"
)

func TestSplitAndJoin(t *testing.T) {
	for s, want := range map[string][]string{
		"": nil, "a": {"a"}, "a\n": {"a\n"}, "\n": {"\n"}, "\n\n": {"\n", "\n"}, "a\nb": {"a\n", "b"}, "a\n\nb\n": {"a\n", "\n", "b\n"}, "a\r\nb\x00\xff": {"a\r\n", "b\x00\xff"},
	} {
		got := lines.Split(s)
		if !slices.Equal(got, want) {
			t.Errorf("Split(%q): %q", s, got)
		}
		if lines.Join(got) != s {
			t.Errorf("Join(%q)", got)
		}
	}
	if lines.Join([]string{"a", "", "b"}) != "ab" {
		t.Error("Join puts something between")
	}
}

func TestWhole(t *testing.T) {
	for s, want := range map[string]bool{"": true, "\n": true, "a\n": true, "a": false, "a\nb": false, "a\r": false} {
		if lines.Whole(s) != want {
			t.Errorf("Whole(%q)", s)
		}
	}
}

func TestPrefixSuffixEqual(t *testing.T) {
	for _, c := range []struct {
		a, b           []string
		prefix, suffix int
		equal          bool
	}{
		{nil, nil, 0, 0, true}, {nil, []string{}, 0, 0, true}, {[]string{"a"}, nil, 0, 0, false}, {[]string{"a", "b"}, []string{"a", "b"}, 2, 2, true},
		{[]string{"a", "a"}, []string{"a", "a", "a"}, 2, 2, false}, {[]string{"a", "x", "b", "c"}, []string{"a", "y", "b", "c"}, 1, 2, false}, {[]string{"x", "a"}, []string{"a"}, 0, 1, false},
		{[]string{"a\n"}, []string{"a"}, 0, 0, false},
	} {
		if p, s, e := lines.Prefix(c.a, c.b), lines.Suffix(c.a, c.b), lines.Equal(c.a, c.b); p != c.prefix || s != c.suffix || e != c.equal {
			t.Errorf("%q, %q: %d, %d, %v", c.a, c.b, p, s, e)
		}
		if lines.Prefix(c.b, c.a) != c.prefix || lines.Suffix(c.b, c.a) != c.suffix || lines.Equal(c.b, c.a) != c.equal {
			t.Errorf("%q, %q: not both ways", c.a, c.b)
		}
	}
}
