// Package octet is layer 1: bytes, taken as a whole: see shared/doc/01-octet.md.
package octet

import "sealwax/api"

// most is how many bytes a number can have.
const most = 8

// digits is what stands for each half of a byte.
var digits = [16]byte{'0', '1', '2', '3', '4', '5', '6', '7', '8', '9', 'a', 'b', 'c', 'd', 'e', 'f'}

// Equal tells whether two lists have the same bytes; what it does hangs on their lengths alone.
func Equal(a, b []byte) bool {
	if len(a) != len(b) {
		return false
	}
	// No way out of the loop: how long it takes must not tell where two secrets differ.
	var unlike byte
	for i := range len(a) {
		unlike |= a[i] ^ b[i]
	}
	return unlike == 0
}

// Xor is each byte of a exclusive-ored with b's.
func Xor(a, b []byte) ([]byte, api.Errno) {
	if len(a) != len(b) {
		return nil, api.ErrArg
	}
	out := make([]byte, len(a))
	for i := range len(a) {
		out[i] = a[i] ^ b[i]
	}
	return out, api.OK
}

// Pick is a's bytes, or b's; what it does does not hang on which.
func Pick(bit int, a, b []byte) ([]byte, api.Errno) {
	if bit != 0 && bit != 1 || len(a) != len(b) {
		return nil, api.ErrArg
	}
	// A mask in place of a branch: the bit may be a secret's.
	mask := byte(-bit)
	out := make([]byte, len(a))
	for i := range len(a) {
		out[i] = a[i] ^ mask&(a[i]^b[i])
	}
	return out, api.OK
}

// Join is all bytes, one list behind the other.
func Join(l ...[]byte) []byte {
	n := 0
	for _, b := range l {
		n += len(b)
	}
	out := make([]byte, 0, n)
	for _, b := range l {
		out = append(out, b...)
	}
	return out
}

// Hex is two digits for each byte.
func Hex(b []byte) string {
	out := make([]byte, 2*len(b))
	for i := range len(b) {
		out[2*i] = digits[b[i]>>4]
		out[2*i+1] = digits[b[i]&15]
	}
	return string(out)
}

// Unhex is the bytes whose digits they are.
func Unhex(s string) ([]byte, api.Errno) {
	if len(s)%2 != 0 {
		return nil, api.ErrForm
	}
	out := make([]byte, len(s)/2)
	for i := range len(out) {
		high, isHigh := half(s[2*i])
		low, isLow := half(s[2*i+1])
		if !isHigh || !isLow {
			return nil, api.ErrForm
		}
		out[i] = high<<4 | low
	}
	return out, api.OK
}

// half is the half of a byte that a digit stands for, and whether it is a digit at all.
func half(c byte) (byte, bool) {
	switch {
	case c >= '0' && c <= '9':
		return c - '0', true
	case c >= 'a' && c <= 'f':
		return c - 'a' + 10, true
	}
	return 0, false
}

// Number is what bytes are worth, the lowest first.
func Number(b []byte) (uint64, api.Errno) {
	if len(b) > most {
		return 0, api.ErrLong
	}
	var n uint64
	for i := range len(b) {
		n |= uint64(b[i]) << (8 * i)
	}
	return n, api.OK
}

// Bytes is a number in so many bytes, the lowest first.
func Bytes(n uint64, size int) ([]byte, api.Errno) {
	if size < 0 || size > most {
		return nil, api.ErrArg
	}
	if n>>(8*size) != 0 {
		return nil, api.ErrRange
	}
	out := make([]byte, size)
	for i := range size {
		out[i] = byte(n >> (8 * i))
	}
	return out, api.OK
}
