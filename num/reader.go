package num

import (
	"math"
	"slices"

	"hayloft/api"
)

// Reader reads numbers out of bytes.
type Reader struct {
	rest  []byte
	fault api.Errno
}

// Open is a reader at the beginning of bytes.
func Open(b []byte) *Reader {
	return &Reader{rest: slices.Clone(b)}
}

// Fixed reads a number of so many bytes.
func (r *Reader) Fixed(width int) uint64 {
	return Get(r.take(within(width)))
}

// Var reads what Var writes.
func (r *Reader) Var() uint64 {
	return r.Upto(math.MaxUint64)
}

// Upto reads what Var writes, of a number that is at most most.
func (r *Reader) Upto(most uint64) uint64 {
	if r.Err() != api.OK {
		return 0
	}
	n, size, e := digits(r.rest)
	if e == api.OK && n > most {
		e = api.ErrForm
	}
	if e != api.OK {
		r.Fail(e)
		return 0
	}
	r.take(size)
	return n
}

// Bytes reads so many bytes.
func (r *Reader) Bytes(n int) []byte {
	return slices.Clone(r.take(max(0, n)))
}

// Left is how many bytes are left.
func (r *Reader) Left() int {
	if r.Err() != api.OK {
		return 0
	}
	return len(r.rest)
}

// Fail makes a fault.
func (r *Reader) Fail(e api.Errno) {
	if r.Err() == api.OK {
		r.fault = e
	}
}

// Err is the fault.
func (r *Reader) Err() api.Errno {
	if r == nil {
		return api.ErrNil
	}
	return r.fault
}

// End is the fault, or that bytes are left.
func (r *Reader) End() api.Errno {
	if r.Left() > 0 {
		return api.ErrLong
	}
	return r.Err()
}

// take goes past n bytes, n being at least 0; what it answers is the reader's own memory.
func (r *Reader) take(n int) []byte {
	if r.Err() != api.OK {
		return nil
	}
	if n > len(r.rest) {
		r.Fail(api.ErrShort)
		return nil
	}
	b := r.rest[:n]
	r.rest = r.rest[n:]
	return b
}

// digits is the number with whose digits b begins, and how many they are.
func digits(b []byte) (n uint64, size int, e api.Errno) {
	for i, c := range b {
		// nine digits leave one bit of 64, so the tenth one is 1 and the last, or it is too great
		if i == 9 && c > 1 {
			return 0, 0, api.ErrForm
		}
		// a highest digit 0 would be a second form of the number
		if i > 0 && c == 0 {
			return 0, 0, api.ErrForm
		}
		n |= uint64(c%128) << (7 * i)
		if c < 128 {
			return n, i + 1, api.OK
		}
	}
	return 0, 0, api.ErrShort
}
