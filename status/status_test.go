package status_test

import (
	"slices"
	"strings"
	"testing"

	"recto/files"
	"recto/index"
	"recto/status"
)

// side reads one of the three sides: 0 none, 1, 2: some bytes, 3: as 1 but Run.
func side(r files.Row, p string, kind int) files.Row {
	switch kind {
	case 1, 2:
		return append(r, files.File{Path: p, Mode: 1, Data: strings.Repeat("x", kind)})
	case 3:
		return append(r, files.File{Path: p, Mode: 2, Data: "x"})
	}
	return r
}

func TestRowsOfEachKind(t *testing.T) {
	name := func(h, i, w int) string {
		return string([]byte{'f', byte('0' + h), byte('0' + i), byte('0' + w)})
	}
	var head, next, work files.Row
	var want []status.Line
	for h := range 4 {
		for i := range 4 {
			for w := range 4 {
				p := name(h, i, w)
				head, next, work = side(head, p, h), side(next, p, i), side(work, p, w)
				x, y := byte(' '), byte(' ')
				switch {
				case h == 0 && i != 0:
					x = 'A'
				case h != 0 && i == 0:
					x = 'D'
				case h != i:
					x = 'M'
				}
				switch {
				case i == 0 && w != 0:
					y = '?'
				case i != 0 && w == 0:
					y = 'D'
				case i != w:
					y = 'M'
				}
				if x != ' ' || y != ' ' {
					want = append(want, status.Line{Path: p, X: x, Y: y})
				}
			}
		}
	}
	ix := index.Of(next)
	for i := range ix {
		ix[i].Time, ix[i].Size = i, 7 // are not asked
	}
	if got := status.Rows(head, ix, work); !slices.Equal(got, want) {
		t.Errorf("%v\nwant %v", got, want)
	}
	if got := status.Rows(next, ix, next); len(got) != 0 {
		t.Errorf("alike: %v", got)
	}
}

func TestRowsOfConflicts(t *testing.T) {
	row := files.Row{{Path: "a", Mode: 1}, {Path: "c", Mode: 1}}
	ix := []index.Entry{{Path: "a", Mode: 1}, {Path: "b", Stage: 1, Mode: 1}, {Path: "c", Stage: 2, Mode: 1}, {Path: "c", Stage: 3, Mode: 1}}
	got := status.Rows(row, ix, row)
	if !slices.Equal(got, []status.Line{{"b", 'U', 'U'}, {"c", 'U', 'U'}}) {
		t.Errorf("%v", got)
	}
	if s := status.Text(append(got, status.Line{Path: "d", X: ' ', Y: '?'})); s != "UU b\nUU c\n ? d\n" {
		t.Errorf("%q", s)
	}
	if status.Text(nil) != "" {
		t.Error("Text of none")
	}
}

func TestClean(t *testing.T) {
	for i, c := range []struct {
		l    []status.Line
		want bool
	}{
		{nil, true}, {[]status.Line{{"a", ' ', '?'}, {"b", ' ', '?'}}, true}, {[]status.Line{{"a", 'D', '?'}}, false}, {[]status.Line{{"a", ' ', '?'}, {"b", 'M', ' '}}, false},
		{[]status.Line{{"a", 'U', 'U'}}, false}, {[]status.Line{{"a", ' ', 'D'}}, false},
	} {
		if status.Clean(c.l) != c.want {
			t.Errorf("%d", i)
		}
	}
}

func TestTracked(t *testing.T) {
	head := files.Row{{Path: "b"}, {Path: "d"}}
	ix := []index.Entry{{Path: "a", Stage: 1}, {Path: "a", Stage: 2}, {Path: "d"}, {Path: "e"}}
	if got := status.Tracked(head, ix); !slices.Equal(got, []string{"a", "b", "d", "e"}) {
		t.Errorf("%v", got)
	}
	if len(status.Tracked(nil, nil)) != 0 {
		t.Error("of none")
	}
}
