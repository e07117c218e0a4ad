package pack

import (
	"bytes"

	"warrener/api"
)

// Reader reads from the front, till the first error.
type Reader struct {
	rest []byte // what is still to be read; nothing from the first error on
	err  api.Errno
}

// New makes one. It takes a copy: b may be written over while it is read.
func New(b []byte) *Reader { return &Reader{rest: bytes.Clone(b)} }

// U8 reads one byte.
func (r *Reader) U8() uint8 { return uint8(r.number(1)) }

// U16 reads two.
func (r *Reader) U16() uint16 { return uint16(r.number(2)) }

// U32 reads four.
func (r *Reader) U32() uint32 { return uint32(r.number(4)) }

// U64 reads eight.
func (r *Reader) U64() uint64 { return r.number(8) }

// Bytes reads some.
func (r *Reader) Bytes(most int) []byte {
	n := int(r.U16())
	if n > most { // ahead of the bytes: too many are refused though they are not all there
		r.fail(api.EFORM)
		return nil
	}
	return bytes.Clone(r.cut(n))
}

// Take reads so many.
func (r *Reader) Take(n int) []byte {
	if n < 0 {
		r.fail(api.EARG)
		return nil
	}
	return bytes.Clone(r.cut(n))
}

// Left counts what is left.
func (r *Reader) Left() int { return len(r.rest) }

// Err tells the first error.
func (r *Reader) Err() api.Errno { return r.err }

func (r *Reader) number(wide int) uint64 {
	v := uint64(0)
	for _, x := range r.cut(wide) {
		v = v<<8 | uint64(x)
	}
	return v
}

// cut takes n bytes, 0 or more, off the front: all of them or none.
func (r *Reader) cut(n int) []byte {
	if n > len(r.rest) {
		r.fail(api.EMORE)
		return nil
	}
	b := r.rest[:n]
	r.rest = r.rest[n:]
	return b
}

// fail keeps the first error, and lets go of the rest: behind an error each read
// finds too few, and so answers zero.
func (r *Reader) fail(e api.Errno) {
	if r.err == api.OK {
		r.err = e
	}
	r.rest = nil
}
