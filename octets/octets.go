// Package octets is layer 1: see shared/doc/01-octets.md.
package octets

import (
	"strings"

	"palaver/api"
)

const (
	byteSize  = 1
	shortSize = 2
	longSize  = 4
)

// Reader reads what was laid.
type Reader struct {
	rest string
	bad  bool
}

// Byte is a number in one byte.
func Byte(n int) (string, bool) {
	return lay(n, byteSize)
}

// Short is a number in two bytes.
func Short(n int) (string, bool) {
	return lay(n, shortSize)
}

// Long is a number in four bytes.
func Long(n int) (string, bool) {
	return lay(n, longSize)
}

// Text is a text with its length ahead.
func Text(s string) (string, bool) {
	size, ok := Short(len(s))
	if !ok || len(s) > api.MaxText {
		return "", false
	}
	return size + s, true
}

// lay shifts a number of 64 bits, as an int of 32 bits couldn't be held against the greatest long.
func lay(n, size int) (string, bool) {
	if n < 0 || uint64(n)>>(8*size) != 0 {
		return "", false
	}
	out := make([]byte, size)
	for i := range out {
		out[i] = byte(n >> (8 * (size - 1 - i)))
	}
	return string(out), true
}

// Read is a reader of bytes.
func Read(s string) *Reader {
	return &Reader{rest: s}
}

// Take is the next bytes.
func (r *Reader) Take(n int) string {
	if !r.Good() {
		return ""
	}
	if n < 0 || n > len(r.rest) {
		// Nothing of the rest is told any more: so it needn't be held.
		*r = Reader{bad: true}
		return ""
	}
	// A copy, so that what is answered shares no memory with what was handed in.
	taken := strings.Clone(r.rest[:n])
	r.rest = r.rest[n:]
	return taken
}

// Byte is the next byte's number.
func (r *Reader) Byte() int {
	return r.number(byteSize)
}

// Short is the next short.
func (r *Reader) Short() int {
	return r.number(shortSize)
}

// Long is the next long.
func (r *Reader) Long() int {
	return r.number(longSize)
}

// Text is the next text.
func (r *Reader) Text() string {
	return r.Take(r.Short())
}

// number needs no word for a reader that is bad: it takes nothing then, and no bytes count as 0.
func (r *Reader) number(size int) int {
	taken := r.Take(size)
	n := 0
	for i := range len(taken) {
		n = n<<8 | int(taken[i])
	}
	return n
}

// Good tells whether nothing was missing.
func (r *Reader) Good() bool {
	return r != nil && !r.bad
}

// Left is how many bytes are to come.
func (r *Reader) Left() int {
	if !r.Good() {
		return 0
	}
	return len(r.rest)
}

// End tells whether all was read, and nothing was missing.
func (r *Reader) End() bool {
	return r.Good() && r.Left() == 0
}
