// Package wire reads and writes numbers as bytes.
package wire

import "errors"

// maxBytes keeps a number below 2 to the power 63.
const maxBytes = 9

var errBroken = errors.New("wire: bytes that tell no number, or too few or too many of them")

// Reader takes bytes and numbers off the front of a text. Where the text does
// not have what is asked for, it panics: the caller who brought the text in
// recovers, so that nobody in between has to hand an error on.
type Reader struct {
	rest string
}

// NewReader reads a text from its first byte on.
func NewReader(text string) *Reader {
	return &Reader{rest: text}
}

// Byte takes one byte.
func (r *Reader) Byte() byte {
	if r.rest == "" {
		panic(errBroken)
	}
	b := r.rest[0]
	r.rest = r.rest[1:]
	return b
}

// Number takes one number.
func (r *Reader) Number() int64 {
	var n int64
	for i := range maxBytes {
		b := r.Byte()
		n |= int64(b&127) << (7 * i)
		if b >= 128 {
			continue
		}
		if b == 0 && i > 0 {
			panic(errBroken) // the same number has a shorter form
		}
		return n
	}
	panic(errBroken)
}

// Take takes so many bytes.
func (r *Reader) Take(count int64) string {
	if count > int64(r.Left()) {
		panic(errBroken)
	}
	taken := r.rest[:count]
	r.rest = r.rest[count:]
	return taken
}

// Left is how many bytes are left.
func (r *Reader) Left() int { return len(r.rest) }

// End wants nothing to be left.
func (r *Reader) End() {
	if r.rest != "" {
		panic(errBroken)
	}
}

// Append writes a number that is 0 or more behind what is there.
func Append(to []byte, n int64) []byte {
	for n >= 128 {
		to = append(to, byte(n&127)|128)
		n >>= 7
	}
	return append(to, byte(n))
}

// Join writes a byte, and numbers behind it.
func Join(first byte, numbers []int64) string {
	b := []byte{first}
	for _, n := range numbers {
		b = Append(b, n)
	}
	return string(b)
}
