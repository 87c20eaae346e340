package object_test

import (
	"bytes"
	"errors"
	"reflect"
	"strconv"
	"strings"
	"testing"

	"recto/api"
	"recto/codec"
	"recto/object"
	"recto/seal"
)

func blob(s string) object.Object { return object.Object{Kind: object.Blob, Data: []byte(s)} }

func tree(l ...object.Item) object.Object { return object.Object{Kind: object.Tree, Items: l} }

func commit(tree, time int, text string, parents ...int) object.Object {
	return object.Object{Kind: object.Commit, Tree: tree, Parents: parents, Time: time, Text: text}
}

func item(p string) object.Item { return object.Item{Path: p, Mode: api.Plain, Blob: 1} }

func items(n int) []object.Item {
	var l []object.Item
	for i := range n {
		l = append(l, item("f"+strconv.Itoa(100+i)))
	}
	return l
}

func TestCheck(t *testing.T) {
	long := items(65)
	long[0].Path = ""
	for _, c := range []struct {
		o    object.Object
		want string
	}{
		{object.Object{}, "object 0: arg"}, {object.Object{Kind: 4}, "object 4: arg"}, {object.Object{Kind: -9}, "object 0: arg"}, {object.Object{Kind: 256}, "object 255: arg"},
		{blob(""), ""}, {blob(strings.Repeat("x", 4096)), ""}, {blob(strings.Repeat("x", 4097)), "object 1: long"},
		{object.Object{Kind: object.Blob, Tree: -1, Time: -1, Items: long, Parents: []int{0}}, ""},
		{tree(), ""}, {tree(items(64)...), ""}, {tree(long...), "object 2: long"},
		{tree(item("a"), item("A")), "object 2: item 1: name"}, {tree(item(strings.Repeat("a", 65))), "object 2: item 0: long"},
		{tree(object.Item{Path: "a", Blob: 1}), "object 2: item 0: arg"}, {tree(object.Item{Path: "a", Mode: 3, Blob: 1}), "object 2: item 0: arg"}, {tree(object.Item{Path: "a", Mode: 2}), "object 2: item 0: arg"},
		{tree(item("a"), item("a")), "object 2: item 1: twice"}, {tree(item("a/b"), item("a")), "object 2: item 1: twice"},
		{tree(item("a"), item("a-b"), item("a/b")), "object 2: item 2: way"}, {tree(item("a"), item("a/b"), item("")), "object 2: item 1: way"},
		{commit(1, 0, ""), ""}, {commit(9, 5, strings.Repeat("x", 256), 2, 1), ""},
		{commit(0, 0, ""), "object 3: arg"}, {commit(1, -1, ""), "object 3: arg"}, {commit(1, 0, "", 0), "object 3: arg"}, {commit(1, 0, "", 1, 2, 3), "object 3: arg"},
		{commit(1, 0, strings.Repeat("x", 257), 3, 3), "object 3: twice"}, {commit(1, 0, strings.Repeat("x", 257), 3), "object 3: long"}, {commit(1, 0, "", 0, 0), "object 3: arg"},
	} {
		got := ""
		err := object.Check(c.o)
		if err != nil {
			got = err.Error()
			var f *api.Fault
			if !errors.As(err, &f) || f.Part != "object" {
				t.Errorf("no Fault: %v", err)
			}
		}
		if got != c.want {
			t.Errorf("Check(%+v): %s, want %s", c.o, got, c.want)
		}
		b, err := object.Encode(c.o)
		if (err == nil) != (c.want == "") || err != nil && (err.Error() != c.want || b != nil) {
			t.Errorf("Encode(%+v): %v, %v", c.o, b, err)
		}
	}
}

func TestEncodeAndDecode(t *testing.T) {
	for _, c := range []struct {
		o    object.Object
		want string
	}{
		{blob("ab"), "\x02\x04ab"},
		{tree(item("a"), object.Item{Path: "b", Mode: 2, Blob: 70}), "\x04\x04\x02a\x02\x02\x02b\x04\x8c\x01"},
		{commit(3, 4, "hi", 2, 1), "\x06\x06\x04\x04\x02\x08\x04hi"},
		{tree(), "\x04\x00"}, {blob(""), "\x02\x00"}, {commit(1, 0, ""), "\x06\x02\x00\x00\x00"},
	} {
		b, err := object.Encode(c.o)
		if err != nil || !bytes.Equal(b, seal.Put([]byte(c.want))) {
			t.Errorf("Encode(%+v): %q, %v", c.o, b, err)
		}
		if back, err := object.Decode(b); err != nil || !object.Same(back, c.o) {
			t.Errorf("Decode: %+v, %v", back, err)
		}
	}
	dirty := object.Object{Kind: object.Commit, Data: []byte("x"), Items: items(1), Tree: 1}
	b, _ := object.Encode(dirty)
	if back, _ := object.Decode(b); !reflect.DeepEqual(back, object.Object{Kind: object.Commit, Tree: 1}) {
		t.Errorf("fields that the kind does not name: %+v", back)
	}
}

func TestDecodeRefuses(t *testing.T) {
	sealed := func(l ...int) []byte {
		var e codec.Enc
		e.Int(l...)
		return seal.Put(e.Bytes())
	}
	good, _ := object.Encode(blob("ab"))
	bad := bytes.Clone(good)
	bad[1] ^= 1
	for i, c := range []struct {
		b    []byte
		want string
	}{
		{nil, "sum 0: short"}, {bad, "sum 8: sum"}, {seal.Put(nil), "byte 0: short"}, {seal.Put([]byte{2, 8, 'a'}), "byte 1: short"}, {seal.Put([]byte{130, 0, 0}), "byte 0: form"},
		{sealed(0), "object 0: arg"}, {sealed(300), "object 255: arg"}, {sealed(-1), "object 0: arg"}, {sealed(4, 0), "object 0: form"}, {seal.Put([]byte{8, 255}), "object 0: form"},
		{sealed(object.Blob, 0, 0), "object 0: form"}, {sealed(object.Tree, -1), "object 0: form"}, {sealed(object.Tree, 65), "object 0: form"}, {sealed(object.Tree, 64), "byte 3: short"},
		{seal.Put([]byte{4, 130, 1, 255}), "object 0: form"}, {sealed(object.Commit, 1, 65), "object 0: form"}, {sealed(object.Commit, 1, -1), "object 0: form"},
		{sealed(object.Commit, 1, 3, 1, 2, 3, 0, 0), "object 3: arg"}, {sealed(object.Commit, 1, 2, 1, 1, 0, 0), "object 3: twice"}, {sealed(object.Commit, 1, 0, 0, 0, 0), "object 0: form"},
		{sealed(object.Tree, 1, 0, 1, 1), "object 2: item 0: name"},
	} {
		got, err := object.Decode(c.b)
		if err == nil || err.Error() != c.want || !reflect.DeepEqual(got, object.Object{}) {
			t.Errorf("%d: %+v, %v, want %s", i, got, err, c.want)
		}
	}
}

func TestSame(t *testing.T) {
	all := []object.Object{blob("a"), blob("b"), tree(), tree(item("a")), tree(item("b")), commit(1, 0, ""), commit(2, 0, ""), commit(1, 1, ""), commit(1, 0, "x"), commit(1, 0, "", 1), {Kind: 7}, {}}
	for i, a := range all {
		for k, b := range all {
			if object.Same(a, b) != (i == k) {
				t.Errorf("%d, %d", i, k)
			}
		}
	}
	if !object.Same(object.Object{Kind: object.Blob, Time: 1, Items: items(1)}, object.Object{Kind: object.Blob, Data: []byte{}, Text: "x"}) || !object.Same(object.Object{Kind: 7, Time: 1}, object.Object{Kind: 7}) {
		t.Error("what the kind does not name is asked")
	}
}

func FuzzDecode(f *testing.F) {
	f.Add([]byte("\x04\x04\x02a\x02\x02\x02b\x04\x8c\x01"))
	f.Fuzz(func(t *testing.T, b []byte) {
		o, err := object.Decode(seal.Put(b))
		if err != nil {
			return
		}
		if again, err := object.Encode(o); err != nil || !bytes.Equal(again, seal.Put(b)) {
			t.Errorf("%q: %+v", b, o)
		}
	})
}
