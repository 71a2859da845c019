// Package num is layer 1: whole numbers as digits.
package num

import (
	"math"
	"strconv"
	"strings"

	"hachure/api"
)

// Print: the number's text.
func Print(n int64) string {
	return strconv.FormatInt(n, 10)
}

// Scan: the number whose text begins at a place, and the place behind it.
func Scan(s string, at int) (int64, int, api.Code) {
	if at < 0 || at > len(s) {
		return 0, 0, api.Arg
	}
	rest, below := strings.CutPrefix(s[at:], "-")
	u, count, fits := digits(rest)
	nought := count > 0 && rest[0] == '0'
	if count == 0 || nought && (count > 1 || below) {
		return 0, 0, api.Word
	}
	n, ok := signed(u, below)
	if !fits || !ok {
		return 0, 0, api.Value
	}
	return n, len(s) - len(rest) + count, api.Fine
}

// Read: the number whose text s is as a whole.
func Read(s string) (int64, api.Code) {
	n, end, e := Scan(s, 0)
	if e != api.Fine {
		return 0, e
	}
	if end != len(s) {
		return 0, api.Word
	}
	return n, api.Fine
}

// digits tells the number of the digits at the beginning of s, how many they are, and whether it fits 64 bits.
func digits(s string) (uint64, int, bool) {
	var u uint64
	fits := true
	for i, r := range s {
		if r < '0' || r > '9' {
			return u, i, fits
		}
		d := uint64(r - '0')
		if u > (math.MaxUint64-d)/10 {
			fits = false
		} else {
			u = 10*u + d
		}
	}
	return u, len(s), fits
}

// signed tells the number of this size, and whether 64 bits with a sign have it.
func signed(u uint64, below bool) (int64, bool) {
	if !below {
		return int64(u), u <= math.MaxInt64
	}
	if u == 0 || u > 1<<63 {
		return 0, u == 0
	}
	return -int64(u-1) - 1, true // the least number has no counterpart above 0
}
