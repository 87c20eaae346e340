package oplog_test

import (
	"strconv"
	"testing"

	"recto/api"
	"recto/oplog"
)

func log(back, forth string) oplog.Log {
	cut := func(s string) []string {
		var l []string
		for i := range len(s) {
			l = append(l, s[i:i+1])
		}
		return l
	}
	return oplog.Log{Back: cut(back), Forth: cut(forth)}
}

func TestBackAndForth(t *testing.T) {
	start := log("ab", "xy")
	if got := start.Do("c"); !got.Same(log("abc", "")) {
		t.Errorf("Do: %v", got)
	}
	got, text, err := start.Undo("c")
	if !got.Same(log("a", "xyc")) || text != "b" || err != api.OK {
		t.Errorf("Undo: %v, %q, %v", got, text, err)
	}
	got, text, err = start.Redo("c")
	if !got.Same(log("abc", "x")) || text != "y" || err != api.OK {
		t.Errorf("Redo: %v, %q, %v", got, text, err)
	}
	if !start.Same(log("ab", "xy")) {
		t.Error("what was handed in changed")
	}
	got, text, err = log("", "x").Undo("c")
	if !got.Same(oplog.Log{}) || text != "" || err != api.ErrSame {
		t.Errorf("%v, %q, %v", got, text, err)
	}
	got, text, err = log("a", "").Redo("c")
	if !got.Same(oplog.Log{}) || text != "" || err != api.ErrSame {
		t.Errorf("%v, %q, %v", got, text, err)
	}
}

func TestTheEldestGoes(t *testing.T) {
	var l oplog.Log
	for i := range 64 {
		l = l.Do(strconv.Itoa(i))
	}
	if len(l.Back) != 64 || l.Back[0] != "0" {
		t.Errorf("%v", l)
	}
	more := l.Do("64")
	if len(more.Back) != 64 || more.Back[0] != "1" || more.Back[63] != "64" || l.Back[0] != "0" {
		t.Errorf("%v", more)
	}
	l.Forth = []string{"f"}
	more, _, _ = l.Redo("64")
	if len(more.Back) != 64 || more.Back[0] != "1" || more.Back[63] != "64" || len(more.Forth) != 0 {
		t.Errorf("%v", more)
	}
	less, text, _ := l.Undo("now")
	if len(less.Back) != 63 || text != "63" || len(less.Forth) != 2 {
		t.Errorf("%v", less)
	}
}

func TestSpareRoomAndSame(t *testing.T) {
	l := log("abc", "xyz")
	l.Back, l.Forth = l.Back[:2], l.Forth[:1]
	l.Do("1")
	l.Undo("2")
	l.Redo("3")
	if l.Back[:3][2] != "c" || l.Forth[:3][1] != "y" || l.Forth[:3][2] != "z" {
		t.Error("spare room changed")
	}
	u, _, _ := l.Undo("2")
	_ = append(u.Back, "q")
	if l.Back[1] != "b" {
		t.Error("an answer shares memory")
	}
	if log("a", "").Same(log("b", "")) || log("a", "").Same(log("", "a")) || log("a", "b").Same(log("a", "c")) || !log("", "").Same(oplog.Log{Back: []string{}, Forth: []string{}}) {
		t.Error("Same")
	}
}
