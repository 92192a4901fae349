// Package wire is layer 1: numbers, texts and bytes, one behind the other: see shared/doc/01-wire.md.
package wire

import "pouch/api"

// A Var has four digits at most, of seven bits each; more says that another digit follows.
const (
	digits = 4
	bits   = 7
	more   = 1 << bits
)

// Byte, Two, Four, Var, Bin: bytes with a number, or a text, more.
func Byte(b []byte, n uint8) []byte {
	return append(grown(b, 1), n)
}

func Two(b []byte, n uint16) []byte {
	return append(grown(b, 2), byte(n>>8), byte(n))
}

func Four(b []byte, n uint32) []byte {
	return append(grown(b, 4), byte(n>>24), byte(n>>16), byte(n>>8), byte(n))
}

func Var(b []byte, n uint32) []byte {
	out := grown(b, VarSize(n))
	if n > api.MaxVar {
		return out
	}
	for ; n >= more; n >>= bits {
		out = append(out, byte(n%more)+more)
	}
	return append(out, byte(n))
}

func Bin(b []byte, s string) []byte {
	if len(s) > api.MaxText {
		return grown(b, 0)
	}
	n := len(s)
	out := append(grown(b, 2+n), byte(n>>8), byte(n))
	return append(out, s...)
}

// grown copies, because an append to b itself could write into spare room that others see.
func grown(b []byte, room int) []byte {
	return append(make([]byte, 0, len(b)+room), b...)
}

// VarSize: how many bytes a number of seven bits a byte has.
func VarSize(n uint32) int {
	for size := 1; size <= digits; size++ {
		if n < 1<<(bits*size) {
			return size
		}
	}
	return 0
}

// Reader takes them.
type Reader struct {
	left []byte // its own copy, never written to
	err  api.Errno
}

// Read: a Reader of bytes; the next number, text; Rest: all that is left; Left: how many bytes; Sub: a Reader of the next ones; Err: what was wrong first.
func Read(b []byte) *Reader {
	return &Reader{left: grown(b, 0)}
}

func (r *Reader) Byte() uint8 {
	return uint8(r.number(1))
}

func (r *Reader) Two() uint16 {
	return uint16(r.number(2))
}

func (r *Reader) Four() uint32 {
	return r.number(4)
}

func (r *Reader) Var() uint32 {
	var n uint32
	for i := range digits {
		digit := r.Byte()
		if r.Err() != api.OK {
			return 0
		}
		n += uint32(digit%more) << (bits * i)
		if digit >= more {
			continue
		}
		// A highest digit of 0 is one that fewer bytes could do without.
		if digit == 0 && i > 0 {
			break
		}
		return n
	}
	r.fail(api.ErrMalformed)
	return 0
}

func (r *Reader) Bin() string {
	n := r.Two()
	return string(r.take(int(n)))
}

func (r *Reader) Rest() string {
	return string(r.take(r.Left()))
}

func (r *Reader) Left() int {
	if r == nil {
		return 0
	}
	return len(r.left)
}

func (r *Reader) Sub(n int) *Reader {
	if r == nil {
		return nil
	}
	sub := Read(r.take(n))
	sub.err = r.err
	return sub
}

func (r *Reader) Err() api.Errno {
	if r == nil {
		return api.ErrArg
	}
	return r.err
}

// number takes a number of so many bytes, the highest one first.
func (r *Reader) number(size int) uint32 {
	var n uint32
	for _, c := range r.take(size) {
		n = n<<8 + uint32(c)
	}
	return n
}

// take answers the next n bytes, or none from the first thing on that is wrong.
func (r *Reader) take(n int) []byte {
	if r.Err() != api.OK {
		return nil
	}
	if n < 0 || n > len(r.left) {
		r.fail(api.ErrShort)
		return nil
	}
	taken := r.left[:n]
	r.left = r.left[n:]
	return taken
}

// fail lets go of the bytes, because behind an error nothing is taken any more.
func (r *Reader) fail(err api.Errno) {
	r.left, r.err = nil, err
}
