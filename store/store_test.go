package store_test

import (
	"bytes"
	"errors"
	"reflect"
	"slices"
	"strconv"
	"testing"

	"recto/api"
	"recto/codec"
	"recto/object"
	"recto/seal"
	"recto/store"
)

func blob(s string) object.Object { return object.Object{Kind: object.Blob, Data: []byte(s)} }

func tree(blobs ...int) object.Object {
	o := object.Object{Kind: object.Tree}
	for i, b := range blobs {
		o.Items = append(o.Items, object.Item{Path: "f" + strconv.Itoa(i), Mode: api.Plain, Blob: b})
	}
	return o
}

func commit(tree int, parents ...int) object.Object {
	return object.Object{Kind: object.Commit, Tree: tree, Parents: parents}
}

// some puts 1 blob, 2 blob, 3 tree of 1, 4 commit, 5 tree of 1 and 2, 6 commit on 4.
func some(t *testing.T) *store.Store {
	t.Helper()
	s := store.New()
	for i, o := range []object.Object{blob("a"), blob("b"), tree(1), commit(3), tree(1, 2), commit(5, 4)} {
		if id, err := s.Put(o); id != i+1 || err != nil {
			t.Fatalf("Put: %d, %v", id, err)
		}
	}
	return s
}

func checkFault(t *testing.T, what string, err error, part string, at int, want api.Errno) {
	t.Helper()
	var f *api.Fault
	if !errors.As(err, &f) || f.Part != part || f.At != at || f.Err != want {
		t.Errorf("%s: %v, want %s %d: %v", what, err, part, at, want)
	}
}

func TestPutKeepsEachOnce(t *testing.T) {
	s := some(t)
	again := commit(5, 4)
	again.Data, again.Items = []byte("x"), tree(1).Items // what its kind does not name
	for want, o := range map[int]object.Object{1: blob("a"), 5: tree(1, 2), 6: again} {
		if id, err := s.Put(o); id != want || err != nil {
			t.Errorf("Put again: %d, %v", id, err)
		}
		if id, there := s.Find(o); id != want || !there {
			t.Errorf("Find: %d, %v", id, there)
		}
	}
	if id, there := s.Find(blob("c")); id != 0 || there {
		t.Errorf("Find of none: %d, %v", id, there)
	}
	if id, there := s.Find(object.Object{Kind: 9}); id != 0 || there {
		t.Errorf("Find of what may not be: %d, %v", id, there)
	}
	if s.Len() != 6 {
		t.Errorf("Len: %d", s.Len())
	}
	for _, id := range []int{0, -1, 7} {
		if o, there := s.Get(id); there || !reflect.DeepEqual(o, object.Object{}) {
			t.Errorf("Get(%d): %+v", id, o)
		}
	}
}

func TestPutRefuses(t *testing.T) {
	s := some(t)
	for _, c := range []struct {
		o  object.Object
		at int
	}{
		{tree(1, 3), 3}, {tree(7), 7}, {tree(1, 9, 8), 9}, {commit(1), 1}, {commit(9, 8), 9}, {commit(3, 3), 3}, {commit(3, 4, 5), 5}, {commit(4, 1), 4},
	} {
		id, err := s.Put(c.o)
		checkFault(t, "Put", err, "ref", c.at, api.ErrName)
		if id != 0 {
			t.Error("a number beside an error")
		}
	}
	if _, err := s.Put(object.Object{Kind: 5}); err == nil || err.Error() != "object 5: arg" {
		t.Errorf("object.Check's: %v", err)
	}
	if s.Len() != 6 {
		t.Error("what is refused is put in")
	}
}

func TestPutEnds(t *testing.T) {
	s := store.New()
	for i := range 4096 {
		if _, err := s.Put(blob(strconv.Itoa(i))); err != nil {
			t.Fatal(err)
		}
	}
	_, err := s.Put(blob("x"))
	checkFault(t, "one more", err, "store", 4096, api.ErrLong)
	_, err = s.Put(tree(4097))
	checkFault(t, "a ref first", err, "ref", 4097, api.ErrName)
	if id, err := s.Put(blob("7")); id != 8 || err != nil {
		t.Errorf("one that is there: %d, %v", id, err)
	}
	back, err := store.Load(s.Bytes())
	if err != nil || back.Len() != 4096 {
		t.Errorf("Load: %v", err)
	}
}

func TestReach(t *testing.T) {
	s := some(t)
	for _, c := range []struct{ ids, want []int }{
		{nil, nil}, {[]int{2}, []int{2}}, {[]int{3}, []int{1, 3}}, {[]int{4, 2}, []int{1, 2, 3, 4}}, {[]int{6, 6}, []int{1, 2, 3, 4, 5, 6}}, {[]int{0, -1, 7}, nil}, {[]int{5, 9}, []int{1, 2, 5}},
	} {
		if got := s.Reach(c.ids...); !slices.Equal(got, c.want) {
			t.Errorf("Reach(%v): %v", c.ids, got)
		}
	}
	room := []int{6, -7, -8, -9}
	s.Reach(room[:1]...)
	if !slices.Equal(room, []int{6, -7, -8, -9}) {
		t.Errorf("spare room changed: %v", room)
	}
}

func TestNothingIsShared(t *testing.T) {
	s := store.New()
	data := []byte("a")
	s.Put(object.Object{Kind: object.Blob, Data: data})
	data[0] = 'x'
	items := tree(1)
	s.Put(items)
	items.Items[0].Path = "z"
	parents := []int{3}
	s.Put(commit(2))
	s.Put(commit(2, parents...))
	parents[0] = 9
	for id := 1; id <= 4; id++ {
		o, _ := s.Get(id)
		for i := range o.Data {
			o.Data[i] = 'y'
		}
		for i := range o.Items {
			o.Items[i].Blob = 5
		}
		for i := range o.Parents {
			o.Parents[i] = 5
		}
	}
	for id, want := range []object.Object{blob("a"), tree(1), commit(2), commit(2, 3)} {
		if o, _ := s.Get(id + 1); !object.Same(o, want) {
			t.Errorf("%d: %+v", id+1, o)
		}
	}
}

func TestBytesAndLoad(t *testing.T) {
	s := some(t)
	b := s.Bytes()
	back, err := store.Load(b)
	if err != nil || back.Len() != s.Len() || !bytes.Equal(back.Bytes(), b) {
		t.Fatalf("Load: %v", err)
	}
	if id, err := back.Put(tree(1, 2)); id != 5 || err != nil {
		t.Errorf("what was there: %d, %v", id, err)
	}
	if id, err := back.Put(blob("new")); id != 7 || err != nil || s.Len() != 6 {
		t.Errorf("what was not: %d, %v", id, err)
	}
	if back, err := store.Load(store.New().Bytes()); err != nil || back.Len() != 0 {
		t.Errorf("an empty one: %v", err)
	}
	for i := range b {
		bad := bytes.Clone(b)
		bad[i] ^= 1
		if back, err := store.Load(bad); back != nil || err == nil {
			t.Errorf("byte %d changed", i)
		}
		if back, err := store.Load(b[:i]); back != nil || err == nil {
			t.Errorf("%d bytes", i)
		}
	}
}

func TestLoadRefusesWhatNoStoreTells(t *testing.T) {
	text := func(o object.Object) string {
		b, err := object.Encode(o)
		if err != nil {
			t.Fatal(err)
		}
		return string(b)
	}
	load := func(n int, texts ...string) error {
		var e codec.Enc
		e.Int(n)
		e.Text(texts...)
		s, err := store.Load(seal.Put(e.Bytes()))
		if (s == nil) != (err != nil) {
			t.Error("a Store beside an error")
		}
		return err
	}
	if err := load(2, text(blob("a")), text(tree(1))); err != nil {
		t.Error(err)
	}
	for i, err := range []error{
		load(-1), load(1), load(0, "x"), load(1, "x"), load(2, text(blob("a")), text(blob("a"))), load(1, text(tree(1))), load(3, text(blob("a"))), load(1 << 60),
	} {
		if err == nil {
			t.Errorf("%d is taken", i)
		}
	}
}
