package pack

import (
	"bytes"

	"quillet/api"
)

// halves is what the polynomial makes of each four bits: two steps a byte, by a table that stays short.
var halves = [16]uint32{
	0x00000000, 0x105EC76F, 0x20BD8EDE, 0x30E349B1,
	0x417B1DBC, 0x5125DAD3, 0x61C69362, 0x7198540D,
	0x82F63B78, 0x92A8FC17, 0xA24BB5A6, 0xB21572C9,
	0xC38D26C4, 0xD3D3E1AB, 0xE330A81A, 0xF36E6F75,
}

// Sum is the sum of bytes.
func Sum(b []byte) uint32 {
	s := ^uint32(0)
	for _, c := range b {
		s ^= uint32(c)
		s = s>>4 ^ halves[s&15]
		s = s>>4 ^ halves[s&15]
	}
	return ^s
}

// head is how many bytes of a frame stand ahead of its payload.
const head = 8

// Frame is a payload's frame.
func Frame(payload []byte) ([]byte, api.Errno) {
	if len(payload) > api.MaxData {
		return nil, api.ErrLong
	}
	out := make([]byte, 0, head+len(payload))
	out = appendWord(out, uint32(len(payload)))
	out = appendWord(out, Sum(payload))
	return append(out, payload...), api.OK
}

// Unframe is the payload of the frame with which bytes begin, and how many bytes that has.
func Unframe(b []byte) ([]byte, int, api.Errno) {
	if len(b) < head {
		return nil, 0, api.ErrMore
	}
	// Held against the bound as it is: an int may be too small for it.
	length := word(b)
	if length > api.MaxData {
		return nil, 0, api.ErrLong
	}
	size := head + int(length)
	if len(b) < size {
		return nil, 0, api.ErrMore
	}
	payload := bytes.Clone(b[head:size])
	if Sum(payload) != word(b[4:]) {
		return nil, 0, api.ErrSum
	}
	return payload, size, api.OK
}

func appendWord(out []byte, w uint32) []byte {
	return append(out, byte(w), byte(w>>8), byte(w>>16), byte(w>>24))
}

func word(b []byte) uint32 {
	return uint32(b[0]) | uint32(b[1])<<8 | uint32(b[2])<<16 | uint32(b[3])<<24
}
