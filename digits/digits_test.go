package digits_test

import (
	"testing"

	"recto/digits"
)

func TestNumber(t *testing.T) {
	for s, want := range map[string]int{"0": 0, "1": 1, "9": 9, "190": 190, "909090": 909090, "1000000": 1000000} {
		if n, good := digits.Number(s); n != want || !good {
			t.Errorf("%q: %d, %v", s, n, good)
		}
	}
	for _, s := range []string{"", "00", "01", "-1", "+1", " 1", "1 ", "1x", "x", "1000001", "9999999", "10000000", "18446744073709551617", "१"} {
		if n, good := digits.Number(s); n != 0 || good {
			t.Errorf("%q: %d, %v", s, n, good)
		}
	}
}
