// Package le is layer 1: see shared/doc/01-le.md.
package le

import (
	"strings"

	"polder/api"
)

const (
	smallBytes = 4
	wideBytes  = 8
	maxSmall   = 1<<32 - 1
	maxCount   = 1<<62 - 1
	maxPad     = 4096
)

// Bytes is bytes, read from the beginning on. Only what is left is kept: nothing asks for what was read.
type Bytes struct{ left string }

// U32 answers a small number's bytes.
func U32(n int) string {
	if n < 0 || n > maxSmall {
		return ""
	}
	return lay(uint64(n), smallBytes)
}

// U64 answers a wide number's bytes.
func U64(x uint64) string { return lay(x, wideBytes) }

// Int answers a count's bytes.
func Int(n int) string {
	if n < 0 || n > maxCount {
		return ""
	}
	return lay(uint64(n), wideBytes)
}

// Pad puts zero bytes behind a text.
func Pad(s string, to int) string {
	if to < 1 || to > maxPad {
		return s
	}
	over := len(s) % to
	if over == 0 {
		return s
	}
	return s + strings.Repeat("\x00", to-over)
}

// New stands at the beginning.
func New(s string) *Bytes { return &Bytes{left: s} }

// Left answers how many bytes are left.
func (b *Bytes) Left() int {
	if b == nil {
		return 0
	}
	return len(b.left)
}

// U32 reads a small number.
func (b *Bytes) U32() (int, api.Errno) {
	s, e := b.Take(smallBytes)
	return int(number(s)), e
}

// U64 reads a wide number.
func (b *Bytes) U64() (uint64, api.Errno) {
	s, e := b.Take(wideBytes)
	return number(s), e
}

// Int reads a count.
func (b *Bytes) Int() (int, api.Errno) {
	if b.Left() < wideBytes {
		return 0, api.ErrShort
	}
	// Looked at ahead of being taken: a number that is refused stays where it is.
	x := number(b.left[:wideBytes])
	if x > maxCount {
		return 0, api.ErrForm
	}
	b.left = b.left[wideBytes:]
	return int(x), api.OK
}

// Take reads bytes.
func (b *Bytes) Take(n int) (string, api.Errno) {
	if n < 0 {
		return "", api.ErrArg
	}
	// Left alone can't refuse 0 bytes of nil.
	if b == nil || n > b.Left() {
		return "", api.ErrShort
	}
	s := b.left[:n]
	b.left = b.left[n:]
	return s, api.OK
}

// Zeros tells whether all that is left is zero.
func (b *Bytes) Zeros() bool {
	for i := range b.Left() {
		if b.left[i] != 0 {
			return false
		}
	}
	return true
}

// lay answers the lowest bytes of x, as many as size, the lowest first.
func lay(x uint64, size int) string {
	l := make([]byte, size)
	for i := range size {
		l[i] = byte(x >> (8 * i))
	}
	return string(l)
}

// number answers what lay laid: at most wideBytes bytes, the lowest first (0 of none).
func number(s string) uint64 {
	var x uint64
	for i := range len(s) {
		x |= uint64(s[i]) << (8 * i)
	}
	return x
}
