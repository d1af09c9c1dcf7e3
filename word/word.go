// Package word is layer 1: numbers as bytes.
package word

import (
	"bytes"

	"almshouse/api"
)

// Reader goes over bytes.
type Reader struct {
	rest []byte
	err  api.Errno // the first one; it stays
}

// isSize asks whether numbers are written by so many bytes.
func isSize(n int) bool { return n == 1 || n == 2 || n == 4 }

// Fits asks whether a number can be written by so many bytes.
func Fits(v, n int) bool {
	return isSize(n) && v >= 0 && uint64(v)>>(8*n) == 0
}

// Put writes a number.
func Put(b []byte, v, n int) []byte {
	if !Fits(v, n) {
		return bytes.Clone(b)
	}
	out := b[:len(b):len(b)] // no room behind it, so that append takes new memory
	for range n {
		out = append(out, byte(v))
		v >>= 8
	}
	return out
}

// Text writes a text.
func Text(b []byte, s string) []byte {
	if !Fits(len(s), 2) {
		return bytes.Clone(b)
	}
	return append(Put(b, len(s), 2), s...)
}

// Read goes over bytes.
func Read(b []byte) *Reader { return &Reader{rest: bytes.Clone(b)} }

// stopped asks whether nothing is read any more.
func (r *Reader) stopped() bool { return r == nil || r.err != api.OK }

// take cuts off the next n bytes; if so many aren't left, it cuts off none.
func (r *Reader) take(n int) []byte {
	if n > len(r.rest) {
		r.err = api.ErrForm
		return nil
	}
	taken := r.rest[:n:n]
	r.rest = r.rest[n:]
	return taken
}

// Number reads a number.
func (r *Reader) Number(n int) int {
	if r.stopped() {
		return 0
	}
	if !isSize(n) {
		r.err = api.ErrArg
		return 0
	}
	v := 0
	for i, c := range r.take(n) {
		v |= int(c) << (8 * i)
	}
	return v
}

// Text reads a text.
func (r *Reader) Text(most int) string {
	n := r.Number(2)
	if r.stopped() {
		return ""
	}
	if n > most {
		r.err = api.ErrLong
		return ""
	}
	return string(r.take(n))
}

// Flag reads yes or no.
func (r *Reader) Flag() bool {
	v := r.Number(1)
	if v > 1 {
		r.err = api.ErrForm
	}
	return v == 1
}

// Left is how many bytes are left.
func (r *Reader) Left() int {
	if r == nil {
		return 0
	}
	return len(r.rest)
}

// Done asks whether all was read.
func (r *Reader) Done() api.Errno {
	if r == nil {
		return api.ErrArg
	}
	if r.err == api.OK && len(r.rest) > 0 {
		r.err = api.ErrForm
	}
	return r.err
}
