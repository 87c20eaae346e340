package shelf_test

import (
	"testing"

	"recto/api"
	"recto/files"
	"recto/shelf"
)

func some(n int) shelf.Shelf {
	r := files.Row{{Path: "a", Mode: 1, Data: "x"}, {Path: "b", Mode: 1}}
	return shelf.Shelf{Base: n, Index: r, Work: r[:1], Text: "t"}
}

func want(t *testing.T, what string, got, want api.Errno) {
	t.Helper()
	if got != want {
		t.Errorf("%s: %v, want %v", what, got, want)
	}
}

func TestTheLatestIsFirst(t *testing.T) {
	var s shelf.Stack
	for n := range 16 {
		next, err := s.Push(some(n + 1))
		want(t, "Push", err, api.OK)
		if len(s) != n {
			t.Error("what was handed in changed")
		}
		s = next
	}
	more, err := s.Push(some(17))
	want(t, "one more", err, api.ErrLong)
	if more != nil || len(s) != 16 {
		t.Error("something beside an error")
	}
	for n := range 16 {
		x, err := s.Get(n)
		want(t, "Get", err, api.OK)
		if x.Base != 16-n {
			t.Errorf("%d: %d", n, x.Base)
		}
	}
	less, err := s.Drop(1)
	want(t, "Drop", err, api.OK)
	if len(less) != 15 || less[0].Base != 16 || less[1].Base != 14 || len(s) != 16 || s[1].Base != 15 {
		t.Errorf("%v", less)
	}
	for _, n := range []int{-1, 16} {
		x, err := s.Get(n)
		want(t, "Get", err, api.ErrArg)
		l, err2 := s.Drop(n)
		want(t, "Drop", err2, api.ErrArg)
		if x.Base != 0 || x.Index != nil || l != nil {
			t.Error("something beside an error")
		}
	}
}

func TestNothingIsShared(t *testing.T) {
	x := some(1)
	s, _ := shelf.Stack(nil).Push(x)
	x.Index[0].Data = "z"
	two, _ := s.Push(some(2))
	one, _ := two.Drop(0)
	got, _ := one.Get(0)
	got.Index[0].Data, got.Work[0].Data = "y", "y"
	one[0].Work[0].Mode = 7
	two[1].Index[1].Mode = 7
	if !s.Same(shelf.Stack{some(1)}) {
		t.Errorf("%v", s)
	}
	if !one[0].Index.Same(some(1).Index) {
		t.Errorf("%v", one)
	}
}

func TestSameAndText(t *testing.T) {
	s := shelf.Stack{some(3), {Base: 1, Text: ""}}
	if got := s.Text(); got != "0: t (3, 2/1)\n1:  (1, 0/0)\n" {
		t.Errorf("%q", got)
	}
	if shelf.Stack(nil).Text() != "" || !shelf.Stack(nil).Same(shelf.Stack{}) || !s.Same(shelf.Stack{some(3), {Base: 1, Index: files.Row{}}}) || s.Same(s[:1]) {
		t.Error("Same")
	}
	for i := range 4 {
		x := some(3)
		switch i {
		case 0:
			x.Base = 4
		case 1:
			x.Index = x.Index[:1]
		case 2:
			x.Work = nil
		case 3:
			x.Text = ""
		}
		if (shelf.Stack{x}).Same(shelf.Stack{some(3)}) {
			t.Errorf("%d", i)
		}
	}
}
