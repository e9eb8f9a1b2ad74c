package hard

import (
	"quillet/api"
	"quillet/pack"
)

// pledge is what a member has said: its term, and its vote in it.
type pledge struct {
	term int64
	vote int
}

func (p pledge) right() bool {
	return p.term >= 0 && p.term <= api.MaxNumber && p.vote >= 0 && p.vote <= api.MaxNode
}

// frame is a right one's; two numbers are never too long for it.
func (p pledge) frame() []byte {
	payload, _ := pack.Put([]pack.Val{
		{Kind: pack.Num, N: p.term},
		{Kind: pack.Num, N: int64(p.vote)},
	})
	out, _ := pack.Frame(payload)
	return out
}

// read is the right one whose frame bytes are; none, if they aren't one's.
func read(b []byte) pledge {
	payload, size, code := pack.Unframe(b)
	if code != api.OK || size != len(b) {
		return pledge{}
	}
	var p pledge
	code = pack.Read(payload, func(r *pack.Reader) {
		p.term = r.Num()
		p.vote = r.Count(api.MaxNode)
	})
	if code != api.OK || !p.right() {
		return pledge{}
	}
	return p
}
