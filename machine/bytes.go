package machine

import (
	"math"
	"slices"

	"quillet/api"
	"quillet/cert"
	"quillet/pack"
	"quillet/sess"
)

// Bytes is all of it but the index.
func (m *Machine) Bytes() []byte {
	vs := append(cut(m.cert.Bytes()), cut(m.asked.Bytes())...)
	// No piece is too long: that is what they are cut for.
	out, _ := pack.Put(vs)
	return out
}

// cut is bytes in pieces, as long as may be, behind how many there are.
func cut(b []byte) []pack.Val {
	vs := []pack.Val{{Kind: pack.Num}}
	for piece := range slices.Chunk(b, api.MaxData) {
		vs = append(vs, pack.Val{Kind: pack.Bytes, B: piece})
		vs[0].N++
	}
	return vs
}

// Load is the machine of bytes.
func Load(c cert.Conf, index int64, b []byte) (*Machine, api.Errno) {
	if index < 0 || index > api.MaxNumber {
		return nil, api.ErrArg
	}
	var known, asked []byte
	code := pack.Read(b, func(r *pack.Reader) { known, asked = join(r), join(r) })
	if code != api.OK {
		return nil, code
	}
	return loadParts(c, index, known, asked)
}

// join reads what cut has cut: each piece ahead of another one is full, and none is empty.
func join(r *pack.Reader) []byte {
	var out []byte
	// However many are told: where one isn't there, the reading ends.
	for i := range r.Count(math.MaxInt) {
		piece := r.Bytes()
		if len(out) != i*api.MaxData || len(piece) == 0 {
			r.Fail(api.ErrForm)
		}
		out = append(out, piece...)
	}
	return out
}

func loadParts(c cert.Conf, index int64, known, asked []byte) (*Machine, api.Errno) {
	decider, code := cert.Load(c, known)
	if code != api.OK {
		return nil, code
	}
	table, code := sess.Load(asked)
	if code != api.OK {
		return nil, code
	}
	return &Machine{index, decider, table}, api.OK
}
