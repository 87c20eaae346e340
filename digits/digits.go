// Package digits: numbers as one says them in a line.
package digits

const most = 1000000

// Number reads digits without noughts ahead, of no more than a million.
func Number(s string) (int, bool) {
	if s == "" || len(s) > len("1000000") || len(s) > 1 && s[0] == '0' {
		return 0, false
	}
	n := 0
	for i := range len(s) {
		if s[i] < '0' || s[i] > '9' {
			return 0, false
		}
		n = 10*n + int(s[i]-'0')
	}
	if n > most {
		return 0, false
	}
	return n, true
}
