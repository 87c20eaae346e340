package merge_test

import (
	"errors"
	"math/rand"
	"slices"
	"strings"
	"testing"

	"recto/api"
	"recto/diff"
	"recto/lines"
	"recto/merge"
)

func cut(s string) []string {
	var l []string
	for i := range len(s) {
		l = append(l, s[i:i+1])
	}
	return l
}

// told tells chunks as BASE|OURS|THEIRS>OUT, a clash with ! for Out.
func told(l []merge.Chunk) string {
	var all []string
	for _, c := range l {
		out := strings.Join(c.Out, "")
		if c.Clash {
			out = "!" + out
		}
		all = append(all, strings.Join(c.Base, "")+"|"+strings.Join(c.Ours, "")+"|"+strings.Join(c.Theirs, "")+">"+out)
	}
	return strings.Join(all, " ")
}

func TestChunks(t *testing.T) {
	for _, c := range []struct{ base, ours, theirs, want string }{
		{"", "", "", ""}, {"ab", "ab", "ab", "ab|ab|ab>ab"}, {"abc", "axc", "abc", "a|a|a>a b|x|b>x c|c|c>c"}, {"abc", "abc", "axc", "a|a|a>a b|b|x>x c|c|c>c"},
		{"abc", "axc", "axc", "a|a|a>a b|x|x>x c|c|c>c"}, {"abc", "axc", "ayc", "a|a|a>a b|x|y>! c|c|c>c"}, {"", "x", "", "|x|>x"}, {"", "", "x", "||x>x"}, {"", "x", "x", "|x|x>x"}, {"", "x", "y", "|x|y>!"},
		{"ab", "b", "a", "ab|b|a>!"}, {"abc", "bc", "ab", "a||a> b|b|b>b c|c|>"}, {"ab", "axb", "ab", "a|a|a>a |x|>x b|b|b>b"}, {"abc", "xbc", "abcy", "a|x|a>x bc|bc|bc>bc ||y>y"}, {"a", "", "", "a||>"}, {"a", "", "b", "a||b>!"},
	} {
		got, err := merge.Chunks(cut(c.base), cut(c.ours), cut(c.theirs))
		if err != nil || told(got) != c.want {
			t.Errorf("%q, %q, %q: %s, %v, want %s", c.base, c.ours, c.theirs, told(got), err, c.want)
		}
	}
}

func TestChunksMakeUpTheTexts(t *testing.T) {
	r := rand.New(rand.NewSource(3))
	text := func() []string {
		l := make([]string, r.Intn(9))
		for i := range l {
			l[i] = string("abc"[r.Intn(3)])
		}
		return l
	}
	for range 2000 {
		base, ours, theirs := text(), text(), text()
		l, err := merge.Chunks(base, ours, theirs)
		if err != nil {
			t.Fatal(err)
		}
		var b, o, s []string
		kept := false
		for _, c := range l {
			b, o, s = append(b, c.Base...), append(o, c.Ours...), append(s, c.Theirs...)
			same := slices.Equal(c.Base, c.Ours) && slices.Equal(c.Base, c.Theirs)
			if same && kept {
				t.Fatalf("two rows of kept lines: %s", told(l))
			}
			kept = same
			if c.Clash && c.Out != nil || len(c.Base)+len(c.Ours)+len(c.Theirs) == 0 {
				t.Fatalf("%s", told(l))
			}
		}
		if !slices.Equal(b, base) || !slices.Equal(o, ours) || !slices.Equal(s, theirs) {
			t.Fatalf("%q, %q, %q: %s", base, ours, theirs, told(l))
		}
		checkKept(t, base, ours, theirs, l)
	}
}

// checkKept holds the lines of rows that are alike in all three against those that both differences keep.
func checkKept(t *testing.T, base, ours, theirs []string, l []merge.Chunk) {
	t.Helper()
	keeps := func(other []string) []bool {
		var out []bool
		edits, _ := diff.Lines(base, other)
		for _, e := range edits {
			if e.Op != diff.Add {
				out = append(out, e.Op == diff.Keep)
			}
		}
		return out
	}
	inOurs, inTheirs := keeps(ours), keeps(theirs)
	i := 0
	for _, c := range l {
		row := slices.Equal(c.Base, c.Ours) && slices.Equal(c.Base, c.Theirs)
		for range c.Base {
			if row != (inOurs[i] && inTheirs[i]) {
				t.Fatalf("%q, %q, %q: line %d: %s", base, ours, theirs, i, told(l))
			}
			i++
		}
	}
}

func TestNothingIsShared(t *testing.T) {
	base := cut("abc")
	l, _ := merge.Chunks(base, base, base)
	want := told(l)
	for i := range l {
		for k, x := range [][]string{l[i].Base, l[i].Ours, l[i].Theirs, l[i].Out} {
			_ = append(x[:0], strings.Repeat("z", k+1))
		}
		if l[i].Base[0] != "z" || l[i].Ours[0] != "zz" || l[i].Theirs[0] != "zzz" || l[i].Out[0] != "zzzz" {
			t.Errorf("lists share: %s", told(l))
		}
	}
	if again, _ := merge.Chunks(base, base, base); told(again) != want {
		t.Error("what was handed in changed")
	}
}

func TestTooManyLines(t *testing.T) {
	more := slices.Repeat([]string{"a"}, 257)
	for _, c := range []struct {
		base, ours, theirs []string
		want               string
	}{{more, nil, nil, "lines 0: long"}, {nil, more, more, "lines 1: long"}, {nil, nil, more, "lines 1: long"}} {
		l, err := merge.Chunks(c.base, c.ours, c.theirs)
		var f *api.Fault
		if !errors.As(err, &f) || err.Error() != c.want || l != nil {
			t.Errorf("%v", err)
		}
		long := func(l []string) string { return strings.Repeat("a\n", len(l)) }
		s, n, err := merge.Text(long(c.base), long(c.ours), long(c.theirs), "", "")
		if err == nil || err.Error() != c.want || s != "" || n != 0 {
			t.Errorf("%q, %d, %v", s, n, err)
		}
	}
}

func TestText(t *testing.T) {
	for _, c := range []struct {
		base, ours, theirs, want string
		clashes                  int
	}{
		{"", "", "", "", 0}, {"a\n", "a\n", "b", "b", 0}, {"a\nb\nc\n", "x\nb\nc\n", "a\nb\ny\n", "x\nb\ny\n", 0},
		{"a\n", "b\n", "c\n", "<<<<<<< HEAD\nb\n=======\nc\n>>>>>>> main\n", 1},
		{"", "b", "c", "<<<<<<< HEAD\nb\n=======\nc\n>>>>>>> main\n", 1},
		{"a", "", "c", "<<<<<<< HEAD\n=======\nc\n>>>>>>> main\n", 1},
		{"a", "c\n", "", "<<<<<<< HEAD\nc\n=======\n>>>>>>> main\n", 1},
		{"a\nk\nb", "1\nk\n2", "3\nk\n4", "<<<<<<< HEAD\n1\n=======\n3\n>>>>>>> main\nk\n<<<<<<< HEAD\n2\n=======\n4\n>>>>>>> main\n", 2},
		{"k", "a\nk", "k", "a\nk", 0},
	} {
		got, n, err := merge.Text(c.base, c.ours, c.theirs, "HEAD", "main")
		if err != nil || got != c.want || n != c.clashes {
			t.Errorf("%q, %q, %q: %q, %d, %v", c.base, c.ours, c.theirs, got, n, err)
		}
		if merge.Marked(got) != (n > 0) || strings.Count(got, "=======\n") != n || !lines.Whole(got) && n > 0 {
			t.Errorf("Marked(%q)", got)
		}
	}
}

func TestMarked(t *testing.T) {
	for s, want := range map[string]bool{
		"": false, "<<<<<<< ": false, "<<<<<<< a\n>>>>>>> b": true, ">>>>>>> b\n<<<<<<< a\n": false, "x\n<<<<<<< \ny\n>>>>>>> \n": true, " <<<<<<< a\n>>>>>>> b\n": false,
		"<<<<<<<\n>>>>>>> b\n": false, "<<<<<<< a\n>>>>>>>b\n": false, "<<<<<<< >>>>>>> \n": false, ">>>>>>> \n<<<<<<< \n>>>>>>> \n": true,
	} {
		if merge.Marked(s) != want {
			t.Errorf("Marked(%q)", s)
		}
	}
}
