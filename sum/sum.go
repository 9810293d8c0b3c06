// Package sum is layer 1: see shared/doc/01-sum.md.
package sum

import (
	"strings"

	"forebear/api"
)

const (
	idStart  = 14695981039346656037
	idFactor = 1099511628211

	checkStart = 0xffffffff
	checkXor   = 0xedb88320

	spreadStep   = 0x9e3779b97f4a7c15
	spreadFirst  = 0xbf58476d1ce4e5b9
	spreadSecond = 0x94d049bb133111eb

	digits    = "0123456789abcdef"
	hexLength = 16
)

// ID: of a kind of bytes.
func ID(kind int, parts ...[]byte) api.ID {
	id := idStep(idStart, byte(kind))
	for _, part := range parts {
		for _, b := range part {
			id = idStep(id, b)
		}
	}
	return id
}

func idStep(id api.ID, b byte) api.ID { return (id ^ api.ID(b)) * idFactor }

// Check: the check sum of bytes.
func Check(parts ...[]byte) uint32 {
	sum := uint32(checkStart)
	for _, part := range parts {
		for _, b := range part {
			sum = checkStep(sum, b)
		}
	}
	return ^sum
}

// Bit by bit, as a table of all 256 steps is greater than a table at package level may be.
func checkStep(sum uint32, b byte) uint32 {
	sum ^= uint32(b)
	for range 8 {
		odd := sum&1 == 1
		sum >>= 1
		if odd {
			sum ^= checkXor
		}
	}
	return sum
}

// Spread: the i-th number made of an ID.
func Spread(id api.ID, i int) uint64 {
	// Turned to 64 bits ahead of the 1, so that the greatest i goes on to 2^63.
	z := uint64(id) + (uint64(i)+1)*spreadStep
	z = (z ^ z>>30) * spreadFirst
	z = (z ^ z>>27) * spreadSecond
	return z ^ z>>31
}

// Hex: an ID in sixteen digits.
func Hex(id api.ID) string {
	var text [hexLength]byte
	for i := hexLength - 1; i >= 0; i-- {
		text[i] = digits[id%16]
		id /= 16
	}
	return string(text[:])
}

// Parse: the ID of sixteen digits.
func Parse(s string) (api.ID, api.Errno) {
	if len(s) != hexLength {
		return 0, api.ErrForm
	}
	var id api.ID
	for i := range hexLength {
		digit := strings.IndexByte(digits, s[i])
		if digit < 0 {
			return 0, api.ErrForm
		}
		id = id*16 + api.ID(digit)
	}
	return id, api.OK
}
