package codec_test

import (
	"bytes"
	"errors"
	"math"
	"strings"
	"testing"

	"recto/api"
	"recto/codec"
)

func enc(l ...int) []byte {
	var e codec.Enc
	e.Int(l...)
	return e.Bytes()
}

func TestIntIsShort(t *testing.T) {
	var zero codec.Enc
	if len(zero.Bytes()) != 0 {
		t.Error("a zero Enc is not empty")
	}
	for _, c := range []struct {
		n    int
		want []byte
	}{
		{0, []byte{0}}, {-1, []byte{1}}, {1, []byte{2}}, {-2, []byte{3}}, {63, []byte{126}}, {-64, []byte{127}}, {64, []byte{128, 1}}, {-65, []byte{129, 1}},
		{8191, []byte{254, 127}}, {8192, []byte{128, 128, 1}},
		{math.MaxInt64, []byte{254, 255, 255, 255, 255, 255, 255, 255, 255, 1}}, {math.MinInt64, []byte{255, 255, 255, 255, 255, 255, 255, 255, 255, 1}},
	} {
		if got := enc(c.n); !bytes.Equal(got, c.want) {
			t.Errorf("%d: %v, want %v", c.n, got, c.want)
		}
		d := codec.Of(c.want)
		if got := d.Int(); got != c.n || d.Err() != nil || d.Left() != 0 {
			t.Errorf("%v: %d, %v", c.want, got, d.Err())
		}
	}
}

func TestItemsComeBack(t *testing.T) {
	var e codec.Enc
	e.Int(3, -7)
	e.Text("", "a\x00b", strings.Repeat("x", 200))
	e.Int(1 << 40)
	b := e.Bytes()
	d := codec.Of(b)
	for i := range b {
		b[i] = 0 // a Dec keeps nothing of what it was handed
	}
	if d.Int() != 3 || d.Int() != -7 || d.Text() != "" || d.Text() != "a\x00b" || d.Text() != strings.Repeat("x", 200) || d.Left() != 6 || d.Int() != 1<<40 || d.Left() != 0 || d.Err() != nil {
		t.Error("not what was put")
	}
	var last codec.Enc
	last.Text("end")
	if d := codec.Of(last.Bytes()); d.Text() != "end" || d.Left() != 0 || d.Err() != nil {
		t.Error("a text at the end")
	}
	if again := e.Bytes(); bytes.Equal(again, b) || len(again) != len(b) {
		t.Error("Bytes shares its answers")
	}
}

func TestWrongNumbers(t *testing.T) {
	nine := bytes.Repeat([]byte{255}, 9)
	for _, c := range []struct {
		b    []byte
		want api.Errno
	}{
		{nil, api.ErrShort}, {[]byte{128}, api.ErrShort}, {[]byte{128, 128}, api.ErrShort}, {nine, api.ErrShort},
		{[]byte{128, 0}, api.ErrForm}, {[]byte{255, 128, 0}, api.ErrForm}, {append(bytes.Clone(nine), 2), api.ErrForm}, {append(bytes.Clone(nine), 0), api.ErrForm},
		{append(bytes.Clone(nine), 128), api.ErrForm}, {append(bytes.Clone(nine), 129), api.ErrForm}, {append(bytes.Clone(nine), 127), api.ErrForm},
	} {
		d := codec.Of(append(enc(5), c.b...))
		d.Int()
		if d.Err() != nil || d.Left() != len(c.b) {
			t.Errorf("%v: ahead of it: %v", c.b, d.Err())
		}
		checkStopped(t, d, d.Int(), 1, c.want)
	}
}

func checkStopped(t *testing.T, d *codec.Dec, got, at int, want api.Errno) {
	t.Helper()
	for range 2 {
		var f *api.Fault
		if !errors.As(d.Err(), &f) || f.Part != "byte" || f.At != at || f.Err != want || got != 0 {
			t.Errorf("%d, %v: want %d, %v", got, d.Err(), at, want)
		}
		if d.Left() != 0 || d.Int() != 0 || d.Text() != "" {
			t.Error("not all is zero behind an error")
		}
	}
}

func TestWrongTexts(t *testing.T) {
	for _, c := range []struct {
		b    []byte
		want api.Errno
	}{
		{nil, api.ErrShort}, {enc(-1), api.ErrForm}, {append(enc(-3), 'a', 'b', 'c'), api.ErrForm}, {append(enc(3), 'a', 'b'), api.ErrShort},
		{enc(math.MaxInt64), api.ErrShort}, {enc(math.MinInt64), api.ErrForm}, {[]byte{130, 0, 'a'}, api.ErrForm},
	} {
		d := codec.Of(append(enc(64), c.b...))
		d.Int()
		if s := d.Text(); s != "" {
			t.Errorf("%v: %q", c.b, s)
		}
		checkStopped(t, d, 0, 2, c.want)
	}
}
