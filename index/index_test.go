package index_test

import (
	"bytes"
	"errors"
	"slices"
	"strconv"
	"strings"
	"testing"

	"recto/api"
	"recto/codec"
	"recto/files"
	"recto/index"
	"recto/seal"
)

func at(p string, stage int) index.Entry {
	return index.Entry{Path: p, Stage: stage, Mode: api.Plain, Data: p + strconv.Itoa(stage)}
}

// list reads "a0 b1 b2": a path of one letter and more, and a stage each.
func list(s string) []index.Entry {
	var l []index.Entry
	for _, w := range strings.Fields(s) {
		l = append(l, at(w[:len(w)-1], int(w[len(w)-1]-'0')))
	}
	return l
}

func told(l []index.Entry) string {
	var out []string
	for _, e := range l {
		out = append(out, e.Path+strconv.Itoa(e.Stage))
	}
	return strings.Join(out, " ")
}

func many(n int) []index.Entry {
	var l []index.Entry
	for i := range n {
		l = append(l, at("f"+strconv.Itoa(1000+i), 0))
	}
	return l
}

func TestCheck(t *testing.T) {
	bad := many(257)
	bad[0].Path = ""
	for i, c := range []struct {
		l    []index.Entry
		at   int
		want api.Errno
	}{
		{nil, 0, api.OK}, {many(256), 0, api.OK}, {bad, 256, api.ErrLong}, {list("a0 b1 b2 b3 c0"), 0, api.OK},
		{list("a0 A0"), 1, api.ErrName}, {list(strings.Repeat("a", 65) + "0"), 0, api.ErrLong},
		{list("a4"), 0, api.ErrArg}, {[]index.Entry{{Path: "a", Mode: 1, Stage: -1}}, 0, api.ErrArg}, {[]index.Entry{{Path: "a"}}, 0, api.ErrArg}, {[]index.Entry{{Path: "a", Mode: 3, Data: strings.Repeat("x", 4097)}}, 0, api.ErrArg},
		{[]index.Entry{{Path: "a", Mode: 1, Time: -1}}, 0, api.ErrArg}, {[]index.Entry{{Path: "a", Mode: 1, Size: -1}}, 0, api.ErrArg}, {[]index.Entry{{Path: "a", Mode: 2, Data: strings.Repeat("x", 4097)}}, 0, api.ErrLong},
		{[]index.Entry{{Path: "a", Mode: 2, Data: strings.Repeat("x", 4096)}}, 0, api.OK}, {list("a0 a0"), 1, api.ErrTwice}, {list("b0 a0"), 1, api.ErrTwice}, {list("a2 a1"), 1, api.ErrTwice}, {list("a0 a1"), 1, api.ErrTwice}, {list("a1 a0"), 1, api.ErrTwice}, {list("a0 a2"), 1, api.ErrTwice},
		{list("a1 a3"), 0, api.OK}, {list("a1 a-0 a/b1"), 2, api.ErrWay},
	} {
		err := index.Check(c.l)
		var f *api.Fault
		if c.want == api.OK && err != nil || c.want != api.OK && (!errors.As(err, &f) || f.Part != "entry" || f.At != c.at || f.Err != c.want) {
			t.Errorf("%d: %v", i, err)
		}
		b, err2 := index.Encode(c.l)
		if (err2 == nil) != (err == nil) || err != nil && (err2.Error() != err.Error() || b != nil) {
			t.Errorf("%d: Encode: %v", i, err2)
		}
	}
}

func TestOfStageConflicts(t *testing.T) {
	r := files.Row{{Path: "a", Mode: 1, Data: "x"}, {Path: "b", Mode: 2, Data: "y"}}
	l := index.Of(r)
	if !slices.Equal(l, []index.Entry{{Path: "a", Mode: 1, Data: "x"}, {Path: "b", Mode: 2, Data: "y"}}) {
		t.Errorf("%v", l)
	}
	if !index.Stage(l, 0).Same(r) || len(index.Stage(l, 1)) != 0 || len(index.Conflicts(l)) != 0 || len(index.Stage(l, -1)) != 0 {
		t.Error("Stage")
	}
	l = list("a0 b1 b3 c2 d0")
	if got := index.Stage(l, 3); !got.Same(files.Row{{Path: "b", Mode: 1, Data: "b3"}}) {
		t.Errorf("%v", got)
	}
	if got := index.Conflicts(l); !slices.Equal(got, []string{"b", "c"}) {
		t.Errorf("%v", got)
	}
}

func TestPutAndDrop(t *testing.T) {
	for _, c := range []struct{ l, put, want string }{
		{"", "a0", "a0"}, {"a0 c0", "b0", "a0 b0 c0"}, {"a0", "a0", "a0"}, {"a1 a2 a3 b0", "a0", "a0 b0"}, {"a0 b0", "a2", "a2 b0"}, {"a1 a3", "a2", "a1 a2 a3"}, {"a1 a2 a3", "a2", "a1 a2 a3"},
		{"a0 b0", "a/x0", "a/x0 b0"}, {"a-0 a/x1 a/y0 b0", "a0", "a0 a-0 b0"}, {"a/x0 b0", "a/x/y1", "a/x/y1 b0"},
	} {
		l := list(c.l)
		e := list(c.put)[0]
		e.Time, e.Size, e.Data = 3, 4, "new"
		got := index.Put(l, e)
		if told(got) != c.want || !slices.Contains(got, e) || told(l) != c.l {
			t.Errorf("Put(%s, %s): %s", c.l, c.put, told(got))
		}
	}
	l := list("a0 b1 b2 c0")
	if got := index.Drop(l, "b"); told(got) != "a0 c0" || told(l) != "a0 b1 b2 c0" {
		t.Errorf("%v", got)
	}
	if got := index.Drop(l, "x"); told(got) != told(l) {
		t.Errorf("%v", got)
	}
	room := list("a0 b0 c0")
	index.Put(room[:1], at("x", 0))
	_ = append(index.Drop(room[:1], "q"), at("y", 0))
	if told(room) != "a0 b0 c0" {
		t.Error("spare room changed")
	}
}

func TestSame(t *testing.T) {
	a, b := list("a0 b1"), list("a0 b1")
	b[0].Time, b[1].Size = 7, 8
	if !index.Same(a, b) || !index.Same(nil, []index.Entry{}) {
		t.Error("times and sizes are asked")
	}
	for i := range 4 {
		b := list("a0 b1")
		switch i {
		case 0:
			b[0].Path = "c"
		case 1:
			b[1].Stage = 2
		case 2:
			b[0].Mode = 2
		case 3:
			b[1].Data = "z"
		}
		if index.Same(a, b) || index.Same(a, a[:1]) {
			t.Errorf("%d", i)
		}
	}
}

func TestEncodeAndDecode(t *testing.T) {
	l := []index.Entry{{Path: "a", Stage: 0, Mode: 2, Data: "xy", Time: 3, Size: 100}, {Path: "b", Stage: 3, Mode: 1}}
	b, err := index.Encode(l)
	if err != nil || !bytes.Equal(b, seal.Put([]byte("\x04\x02a\x00\x04\x04xy\x06\xc8\x01\x02b\x06\x02\x00\x00\x00"))) {
		t.Errorf("%q, %v", b, err)
	}
	if back, err := index.Decode(b); err != nil || !slices.Equal(back, l) {
		t.Errorf("%v, %v", back, err)
	}
	if back, err := index.Decode(seal.Put([]byte{0})); err != nil || len(back) != 0 {
		t.Errorf("of none: %v, %v", back, err)
	}
	if b, err := index.Encode(nil); err != nil || !bytes.Equal(b, seal.Put([]byte{0})) {
		t.Errorf("%q, %v", b, err)
	}
}

func TestDecodeRefuses(t *testing.T) {
	text := func(n int, l ...index.Entry) []byte {
		var e codec.Enc
		e.Int(n)
		for _, x := range l {
			e.Text(x.Path)
			e.Int(x.Stage, x.Mode)
			e.Text(x.Data)
			e.Int(x.Time, x.Size)
		}
		return e.Bytes()
	}
	for i, c := range []struct {
		b    []byte
		want string
	}{
		{nil, "sum 0: short"}, {[]byte("hello"), "sum 5: sum"}, {seal.Put(nil), "byte 0: short"}, {seal.Put([]byte{128, 0}), "byte 0: form"}, {seal.Put(text(2, at("a", 0))), "byte 10: short"},
		{seal.Put(text(-1)), "index 0: form"}, {seal.Put(text(-1, at("a", 0))), "index 0: form"}, {seal.Put(text(0, at("a", 0))), "index 0: form"}, {seal.Put(text(1<<60, at("a", 9))), "byte 18: short"},
		{seal.Put(text(1, at("A", 0))), "entry 0: name"}, {seal.Put(text(2, at("a", 0), at("a", 1))), "entry 1: twice"}, {seal.Put(append(text(1, at("A", 0)), 0)), "index 0: form"}, {seal.Put(text(257, many(257)...)), "entry 256: long"},
	} {
		got, err := index.Decode(c.b)
		if err == nil || err.Error() != c.want || got != nil {
			t.Errorf("%d: %v, %v, want %s", i, got, err, c.want)
		}
	}
}
