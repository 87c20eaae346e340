package seal_test

import (
	"bytes"
	"errors"
	"hash/crc32"
	"testing"

	"recto/api"
	"recto/seal"
)

func TestSumIsCRC32(t *testing.T) {
	if seal.Sum([]byte("123456789")) != 0xcbf43926 || seal.Sum() != 0 || seal.Sum(nil, nil) != 0 {
		t.Error("known sums")
	}
	all := make([]byte, 700)
	for i := range all {
		all[i] = byte(i * i)
	}
	for n := range all {
		if seal.Sum(all[:n/3], nil, all[n/3:n]) != crc32.ChecksumIEEE(all[:n]) {
			t.Errorf("length %d", n)
		}
	}
}

func TestPutAndOpen(t *testing.T) {
	if got := seal.Put([]byte("123456789")); string(got) != "123456789\x26\x39\xf4\xcb" {
		t.Errorf("%q", got)
	}
	room := []byte("abcdefgh")
	sealed := seal.Put(room[:3])
	if string(room) != "abcdefgh" {
		t.Error("Put wrote into the spare room")
	}
	got, err := seal.Open(sealed)
	if err != nil || string(got) != "abc" {
		t.Fatalf("%q, %v", got, err)
	}
	_ = append(got, 'x', 'x', 'x', 'x')
	if back, err := seal.Open(sealed); err != nil || string(back) != "abc" {
		t.Error("an answer shares memory with what was handed in")
	}
	if got, err := seal.Open(seal.Put(nil)); err != nil || len(got) != 0 {
		t.Errorf("nothing: %q, %v", got, err)
	}
}

func TestOpenRefuses(t *testing.T) {
	good := seal.Put([]byte("hello"))
	check := func(b []byte, want api.Errno) {
		t.Helper()
		got, err := seal.Open(b)
		var f *api.Fault
		if !errors.As(err, &f) || f.Part != "sum" || f.At != len(b) || f.Err != want || got != nil {
			t.Errorf("%v: %q, %v", b, got, err)
		}
	}
	for n := range 4 {
		check(good[:n], api.ErrShort)
	}
	for n := 4; n < len(good); n++ {
		check(good[:n], api.ErrSum)
	}
	for i := range 8 * len(good) {
		bad := bytes.Clone(good)
		bad[i/8] ^= 1 << (i % 8)
		check(bad, api.ErrSum)
	}
}
