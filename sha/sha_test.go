package sha_test

import (
	"bytes"
	"crypto/sha256"
	"errors"
	"strings"
	"testing"

	"recto/api"
	"recto/sha"
)

func TestSumIsSHA256(t *testing.T) {
	if got := sha.Sum([]byte("abc")).String(); got != "ba7816bf8f01cfea414140de5dae2223b00361a396177a9cb410ff61f20015ad" {
		t.Errorf("abc: %s", got)
	}
	for n := range 300 {
		b := make([]byte, n, n+200)
		for i := range b {
			b[i] = byte(i*7 + n)
		}
		ahead := bytes.Clone(b[:cap(b)])
		if sha.Sum(b) != sha.ID(sha256.Sum256(b)) {
			t.Errorf("length %d", n)
		}
		if !bytes.Equal(b[:cap(b)], ahead) {
			t.Errorf("length %d: what was handed in, or its spare room, changed", n)
		}
	}
	if sha.Sum(nil) != sha.ID(sha256.Sum256(nil)) {
		t.Error("nothing")
	}
}

func TestStringAndParse(t *testing.T) {
	id := sha.Sum([]byte("x"))
	if back, err := sha.Parse(id.String()); err != nil || back != id {
		t.Errorf("back: %v, %v", back, err)
	}
	good := strings.Repeat("0f", 32)
	for _, c := range []struct {
		s    string
		at   int
		want api.Errno
	}{
		{"", 0, api.ErrShort}, {good[:63], 63, api.ErrShort}, {"x" + good[:40], 41, api.ErrShort}, {good + "0", 65, api.ErrLong}, {"x" + good, 65, api.ErrLong},
		{"g" + good[1:], 0, api.ErrForm}, {good[:63] + "F", 63, api.ErrForm}, {good[:10] + "A/" + good[12:], 10, api.ErrForm}, {good[:5] + "\xff" + good[6:], 5, api.ErrForm},
		{good[:5] + ":" + good[6:], 5, api.ErrForm}, {good[:5] + "`" + good[6:], 5, api.ErrForm},
	} {
		got, err := sha.Parse(c.s)
		var f *api.Fault
		if !errors.As(err, &f) || f.Part != "digit" || f.At != c.at || f.Err != c.want || got != (sha.ID{}) {
			t.Errorf("Parse(%q): %v, %v", c.s, got, err)
		}
	}
}

func TestSharedAndShort(t *testing.T) {
	a := sha.ID{0x12, 0x34}
	b := sha.ID{0x12, 0x35}
	c := sha.ID{0x22}
	last := a
	last[31] = 1
	for _, x := range []struct {
		p, q sha.ID
		want int
	}{{a, a, 64}, {a, b, 3}, {b, a, 3}, {a, c, 0}, {a, last, 63}} {
		if got := sha.Shared(x.p, x.q); got != x.want {
			t.Errorf("Shared(%v, %v): %d", x.p, x.q, got)
		}
	}
	for _, x := range []struct {
		all   []sha.ID
		least int
		want  int
	}{
		{nil, 0, 0}, {nil, -5, 0}, {nil, 7, 7}, {nil, 99, 64}, {[]sha.ID{a, a}, 0, 0}, {[]sha.ID{a, c}, 0, 1}, {[]sha.ID{c, b, a}, 0, 4},
		{[]sha.ID{b}, 9, 9}, {[]sha.ID{last}, 1, 64}, {[]sha.ID{b}, 100, 64},
	} {
		if got := sha.Short(x.all, a, x.least); got != x.want {
			t.Errorf("Short(%v, a, %d): %d, want %d", x.all, x.least, got, x.want)
		}
	}
}
