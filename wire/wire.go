// Package wire is layer 1: numbers and texts as bytes.
package wire

import "hibernacle/api"

const (
	// More bytes, of seven bits each, would not fit into an int.
	mostShort = 9

	// Twice a signed number has to fit into an int, too.
	leastSigned = -1 << 61
	mostSigned  = 1<<61 - 1
)

// Writer is bytes that are written; its zero value has none.
type Writer struct {
	b []byte
}

// Fixed puts the lowest n bytes of v, the lowest one first.
func (w *Writer) Fixed(v uint64, n int) {
	if !isWidth(n) {
		return
	}
	for range n {
		w.Raw(byte(v))
		v >>= 8
	}
}

// Short puts a short number.
func (w *Writer) Short(v int) {
	v = max(v, 0)
	for v > 127 {
		w.Raw(byte(v&127 | 128))
		v >>= 7
	}
	w.Raw(byte(v))
}

// Signed puts a signed number.
func (w *Writer) Signed(v int) {
	v = min(max(v, leastSigned), mostSigned)
	if v < 0 {
		w.Short(2*(-1-v) + 1)
		return
	}
	w.Short(2 * v)
}

// Text puts a text, behind how many bytes it has.
func (w *Writer) Text(s string) {
	w.Short(len(s))
	w.Raw([]byte(s)...)
}

// Raw puts bytes as they are.
func (w *Writer) Raw(b ...byte) {
	w.b = append(w.b, b...)
}

// Bytes is all that was put, in memory of its own.
func (w *Writer) Bytes() []byte {
	return own(w.b)
}

// Len is how many bytes were put.
func (w *Writer) Len() int {
	return len(w.b)
}

// Reader is bytes that are read, a place among them, and the first error.
type Reader struct {
	b   []byte
	at  int
	err api.Errno
}

// NewReader is one at the first byte of b. It has a copy, as b stays its owner's.
func NewReader(b []byte) *Reader {
	return &Reader{b: own(b)}
}

// Fixed reads a number of n bytes.
func (r *Reader) Fixed(n int) uint64 {
	var v uint64
	if !isWidth(n) {
		return v
	}
	r.read(func(left []byte) (int, api.Errno) {
		if n > len(left) {
			return 0, api.ErrShort
		}
		for i, x := range left[:n] {
			v |= uint64(x) << (8 * i)
		}
		return n, api.OK
	})
	return v
}

// Short reads a short number.
func (r *Reader) Short() int {
	v := 0
	r.read(func(left []byte) (int, api.Errno) {
		got, n, e := short(left)
		v = got
		return n, e
	})
	return v
}

// Signed reads a signed number.
func (r *Reader) Signed() int {
	v := 0
	r.read(func(left []byte) (int, api.Errno) {
		got, n, e := short(left)
		if e != api.OK {
			return 0, e
		}
		if got/2 > mostSigned {
			return 0, api.ErrForm
		}
		v = got / 2
		if got%2 == 1 {
			v = -1 - v
		}
		return n, api.OK
	})
	return v
}

// Text reads a text.
func (r *Reader) Text() string {
	s := ""
	r.read(func(left []byte) (int, api.Errno) {
		size, n, e := short(left)
		if e != api.OK {
			return 0, e
		}
		// The sum of both might not fit into an int.
		if size > len(left)-n {
			return 0, api.ErrShort
		}
		s = string(left[n : n+size])
		return n + size, api.OK
	})
	return s
}

// Raw reads n bytes, into memory of their own.
func (r *Reader) Raw(n int) []byte {
	var b []byte
	r.read(func(left []byte) (int, api.Errno) {
		if n > len(left) {
			return 0, api.ErrShort
		}
		b = own(left[:max(n, 0)])
		return len(b), api.OK
	})
	return b
}

// List reads how many things follow: most at most, each of which takes a byte at least.
func (r *Reader) List(most int) int {
	v := 0
	r.read(func(left []byte) (int, api.Errno) {
		size, n, e := short(left)
		if e != api.OK {
			return 0, e
		}
		if size > most {
			return 0, api.ErrForm
		}
		if size > len(left)-n {
			return 0, api.ErrShort
		}
		v = size
		return n, api.OK
	})
	return v
}

// Left is how many bytes are left.
func (r *Reader) Left() int {
	return len(r.b) - r.at
}

// At is the place.
func (r *Reader) At() int {
	return r.at
}

// Err is the error.
func (r *Reader) Err() api.Errno {
	return r.err
}

// Fail notes an error, if there is none yet.
func (r *Reader) Fail(e api.Errno) {
	if r.err == api.OK {
		r.err = e
	}
}

// End tells whether all was read, and notes ErrForm if it was not.
func (r *Reader) End() api.Errno {
	if r.Left() > 0 {
		r.Fail(api.ErrForm)
	}
	return r.err
}

// read hands what is left to tell, which answers how many of these bytes it took. All calls that read go through it, so that the place stays wherever one of them can't.
func (r *Reader) read(tell func(left []byte) (int, api.Errno)) {
	if r.err != api.OK {
		return
	}
	n, e := tell(r.b[r.at:])
	if e != api.OK {
		r.err = e
		return
	}
	r.at += n
}

// short is the short number with which b begins, and how many bytes it takes.
func short(b []byte) (int, int, api.Errno) {
	v := 0
	for i, x := range b {
		v |= int(x&127) << (7 * i)
		switch {
		case x < 128 && (x > 0 || i == 0):
			return v, i + 1, api.OK
		case x == 0, i == mostShort-1:
			// A last byte without bits is one more than it takes; behind the ninth one none may follow.
			return 0, 0, api.ErrForm
		}
	}
	return 0, 0, api.ErrShort
}

// isWidth tells whether a number may have n bytes.
func isWidth(n int) bool {
	return n == 1 || n == 2 || n == 4 || n == 8
}

// own is b in memory that no one else has.
func own(b []byte) []byte {
	return append([]byte(nil), b...)
}
