// Package num: numbers and texts as bytes: layer 1: see shared/doc/01-num.md.
package num

import "postroom/api"

const (
	groupBits = 7
	more      = 1 << groupBits // is added to a byte that another one comes behind
	lastGroup = 9              // the place of the highest group of 2^64 - 1
	lastMost  = 1              // 9 groups have 63 bits: one bit is left for the last
)

// Put is a number's bytes, Take the number that bytes begin with.
func Put(n uint64) string {
	var out []byte
	for n >= more {
		out = append(out, byte(n%more)+more)
		n >>= groupBits
	}
	return string(append(out, byte(n)))
}

func Take(s string) (uint64, string, api.Errno) {
	var n uint64
	size := 0 // stays 0 until the number's last byte is found
groups:
	for i := range len(s) {
		b := s[i]
		switch {
		case i == lastGroup && b > lastMost:
			break groups
		case i > 0 && b == 0: // the groups ahead of it would do
			break groups
		case b < more:
			n |= uint64(b) << (groupBits * i)
			size = i + 1
			break groups
		}
		n |= uint64(b-more) << (groupBits * i)
	}
	if size == 0 {
		return 0, "", api.ErrForm
	}
	return n, s[size:], api.OK
}

// PutInt and TakeInt are of signed numbers, PutText and TakeText of texts.
func PutInt(n int64) string {
	if n < 0 {
		// -2n - 1, written so that it stays right for the least number, whose double has no room
		return Put(uint64(-(n+1))<<1 + 1)
	}
	return Put(uint64(n) << 1)
}

func TakeInt(s string) (int64, string, api.Errno) {
	n, rest, e := Take(s)
	if e != api.OK {
		return 0, "", e
	}
	half := int64(n >> 1)
	if n%2 == 1 {
		return -half - 1, rest, api.OK
	}
	return half, rest, api.OK
}

func PutText(t string) string { return Put(uint64(len(t))) + t }

func TakeText(s string, most int) (string, string, api.Errno) {
	n, rest, e := Take(s)
	// Compared as uint64: a number above the greatest int is too long as well.
	switch {
	case e != api.OK:
		return "", "", e
	case n > uint64(max(most, 0)):
		return "", "", api.ErrLong
	case n > uint64(len(rest)):
		return "", "", api.ErrForm
	}
	return rest[:n], rest[n:], api.OK
}
