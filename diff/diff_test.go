package diff_test

import (
	"errors"
	"math/rand"
	"slices"
	"strings"
	"testing"

	"recto/api"
	"recto/diff"
)

func cut(s string) []string { return strings.Split(s, "")[:len(s)] }

func told(l []diff.Edit) string {
	var b strings.Builder
	for _, e := range l {
		b.WriteString(string("?=-+"[e.Op]) + e.Line)
	}
	return b.String()
}

func TestLines(t *testing.T) {
	for _, c := range []struct{ a, b, want string }{
		{"", "", ""}, {"a", "", "-a"}, {"", "ab", "+a+b"}, {"ab", "ab", "=a=b"}, {"a", "b", "-a+b"},
		{"abc", "axc", "=a-b+x=c"}, {"ab", "ba", "-a=b+a"}, {"xay", "aby", "-x=a+b=y"},
		{"aab", "ab", "=a-a=b"}, {"ab", "aab", "=a+a=b"}, {"abx", "bay", "-a=b-x+a+y"},
	} {
		got, err := diff.Lines(cut(c.a), cut(c.b))
		if err != nil || told(got) != c.want {
			t.Errorf("%q, %q: %s, %v, want %s", c.a, c.b, told(got), err, c.want)
		}
	}
}

// common is C of the chapter, from its words.
func common(a, b []string) int {
	switch {
	case len(a) == 0 || len(b) == 0:
		return 0
	case a[0] == b[0]:
		return common(a[1:], b[1:]) + 1
	}
	return max(common(a[1:], b), common(a, b[1:]))
}

// plain is Lines, from the chapter's words.
func plain(a, b []string, i, j int) []diff.Edit {
	switch {
	case i == len(a) && j == len(b):
		return nil
	case i < len(a) && j < len(b) && a[i] == b[j]:
		return append([]diff.Edit{{Op: diff.Keep, Line: a[i]}}, plain(a, b, i+1, j+1)...)
	case i < len(a) && (j == len(b) || common(a[i+1:], b[j:]) >= common(a[i:], b[j+1:])):
		return append([]diff.Edit{{Op: diff.Del, Line: a[i]}}, plain(a, b, i+1, j)...)
	}
	return append([]diff.Edit{{Op: diff.Add, Line: b[j]}}, plain(a, b, i, j+1)...)
}

func TestLinesAreThoseOfTheChapter(t *testing.T) {
	r := rand.New(rand.NewSource(1))
	text := func() []string {
		l := make([]string, r.Intn(8))
		for i := range l {
			l[i] = string("abc"[r.Intn(3)])
		}
		return l
	}
	for range 2000 {
		a, b := text(), text()
		got, err := diff.Lines(a, b)
		if err != nil || told(got) != told(plain(a, b, 0, 0)) {
			t.Fatalf("%q, %q: %s", a, b, told(got))
		}
		n, err := diff.Common(a, b)
		if err != nil || n != common(a, b) || diff.Cost(got) != len(a)+len(b)-2*n {
			t.Fatalf("%q, %q: Common %d, Cost %d", a, b, n, diff.Cost(got))
		}
		checkMatches(t, a, b, got)
	}
}

func checkMatches(t *testing.T, a, b []string, edits []diff.Edit) {
	t.Helper()
	l, err := diff.Matches(a, b)
	if err != nil {
		t.Fatal(err)
	}
	kept, i, j := 0, -1, -1
	for _, m := range l {
		if m.A < i || m.B < j || m.A == i && m.B == j || m.N < 1 || !slices.Equal(a[m.A:m.A+m.N], b[m.B:m.B+m.N]) {
			t.Fatalf("%q, %q: %v", a, b, l)
		}
		i, j, kept = m.A+m.N, m.B+m.N, kept+m.N
	}
	if kept != len(edits)-diff.Cost(edits) {
		t.Fatalf("%q, %q: %v", a, b, l)
	}
}

func TestMatches(t *testing.T) {
	got, err := diff.Matches(cut("xabyc"), cut("abzc"))
	if err != nil || !slices.Equal(got, []diff.Match{{A: 1, B: 0, N: 2}, {A: 4, B: 3, N: 1}}) {
		t.Errorf("%v, %v", got, err)
	}
	if got, err := diff.Matches(nil, cut("a")); len(got) != 0 || err != nil {
		t.Errorf("%v, %v", got, err)
	}
	if got := diff.Cost([]diff.Edit{{Op: 1}, {Op: 2}, {Op: 3}, {Op: 0}, {Op: 9}}); got != 4 {
		t.Errorf("Cost: %d", got)
	}
}

func TestTooManyLines(t *testing.T) {
	most := slices.Repeat([]string{"a"}, 256)
	more := slices.Repeat([]string{"a"}, 257)
	if l, err := diff.Lines(most, most); len(l) != 256 || err != nil {
		t.Errorf("at the bound: %v", err)
	}
	for _, c := range []struct {
		a, b []string
		at   int
	}{{more, most, 0}, {most, more, 1}, {more, more, 0}} {
		l, err1 := diff.Lines(c.a, c.b)
		m, err2 := diff.Matches(c.a, c.b)
		n, err3 := diff.Common(c.a, c.b)
		for _, err := range []error{err1, err2, err3} {
			var f *api.Fault
			if !errors.As(err, &f) || f.Part != "lines" || f.At != c.at || f.Err != api.ErrLong {
				t.Errorf("%v", err)
			}
		}
		if l != nil || m != nil || n != 0 {
			t.Error("something beside an error")
		}
	}
}
