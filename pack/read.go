package pack

import (
	"bytes"

	"quillet/api"
	"quillet/flo"
)

// Reader reads values, one behind the other.
type Reader struct {
	rest []byte
	code api.Errno // why the reading has failed
	live bool      // its Read is still under way
}

// ended is what a Reader panics with; it names the Reader, since a function that reads may use one of a Read around it.
type ended struct{ by *Reader }

// Read lets a function read values.
func Read(b []byte, f func(r *Reader)) (code api.Errno) {
	r := &Reader{rest: b, live: true}
	defer func() {
		code = r.close()
		switch p := recover().(type) {
		case nil:
		case ended:
			if p.by != r {
				panic(p)
			}
		default:
			panic(p)
		}
	}()
	// No call may panic by itself: no function reads nothing.
	if f != nil {
		f(r)
	}
	return
}

// close tells how the reading went, and lets go of the bytes: somebody may have kept the Reader.
func (r *Reader) close() api.Errno {
	code := r.code
	if code == api.OK && len(r.rest) > 0 {
		code = api.ErrForm
	}
	*r = Reader{}
	return code
}

// Fail ends the reading.
func (r *Reader) Fail(e api.Errno) {
	// Behind its Read nobody would recover.
	if !r.live {
		return
	}
	if e == api.OK {
		e = api.ErrForm
	}
	// The first failure holds, even if the function recovers it and reads on.
	if r.code == api.OK {
		r.code = e
	}
	r.rest = nil
	panic(ended{by: r})
}

// pass goes behind a value of that many bytes; a value that isn't there has none.
func (r *Reader) pass(size int) {
	if size == 0 {
		r.Fail(api.ErrForm)
		return
	}
	r.rest = r.rest[size:]
}

// Num reads a number.
func (r *Reader) Num() int64 {
	n, size := leadingNum(r.rest)
	r.pass(size)
	return n
}

// Key reads a key.
func (r *Reader) Key() float64 {
	x, size := leadingKey(r.rest)
	r.pass(size)
	return x
}

// Flag reads a flag.
func (r *Reader) Flag() bool {
	on, size := leadingFlag(r.rest)
	r.pass(size)
	return on
}

// Count reads a number from 0 to a bound.
func (r *Reader) Count(most int) int {
	n := r.Num()
	if n < 0 || n > int64(most) {
		r.Fail(api.ErrForm)
		return 0
	}
	return int(n)
}

// Bytes reads bytes.
func (r *Reader) Bytes() []byte {
	n := r.Count(api.MaxData)
	if n > len(r.rest) {
		r.Fail(api.ErrForm)
		return nil
	}
	b := bytes.Clone(r.rest[:n])
	r.rest = r.rest[n:]
	return b
}

const (
	more     = 128 // added to a group of a number behind which another one stands
	groups   = 10  // the most that 64 bits fill
	lastBits = 1   // what is left of 64 bits for the tenth group
	keySize  = 8
)

// folded is a number as one without a sign.
func folded(n int64) uint64 { return uint64(n)<<1 ^ uint64(n>>63) }

func unfolded(u uint64) int64 { return int64(u>>1) ^ -int64(u&1) }

// leadingNum is the number with which bytes begin, and how many it has: none, if there is no number.
func leadingNum(b []byte) (int64, int) {
	var u uint64
	for i := 0; i < len(b) && i < groups; i++ {
		u |= uint64(b[i]&^more) << (7 * i)
		if b[i]&more != 0 {
			continue
		}
		if i > 0 && b[i] == 0 || i == groups-1 && b[i] > lastBits {
			return 0, 0
		}
		return unfolded(u), i + 1
	}
	return 0, 0
}

func leadingKey(b []byte) (float64, int) {
	if len(b) < keySize {
		return 0, 0
	}
	var code uint64
	for _, c := range b[:keySize] {
		code = code<<8 | uint64(c)
	}
	x, ok := flo.From(code)
	if !ok {
		return 0, 0
	}
	return x, keySize
}

func leadingFlag(b []byte) (bool, int) {
	if len(b) == 0 || b[0] > 1 {
		return false, 0
	}
	return b[0] == 1, 1
}
