package node

import (
	"math"

	"quillet/api"
	"quillet/msg"
)

// settle keeps what has changed, and only then says and does what follows from it.
func (x *Node) settle() api.Errno {
	for _, step := range []func() api.Errno{x.pledge, x.keep, x.post, x.apply, x.compact} {
		if step() != api.OK {
			x.down = true
			return api.ErrDown
		}
	}
	return api.OK
}

// pledge keeps the term and the vote.
func (x *Node) pledge() api.Errno { return x.hard.Save(x.core.Term(), x.core.Vote()) }

// keep keeps what has come to the log.
func (x *Node) keep() api.Errno {
	from, whole := x.core.Dirty()
	if whole {
		if code := x.adopt(); code != api.OK {
			return code
		}
	}
	if from == 0 {
		return api.OK
	}
	return x.write(from)
}

// adopt keeps a snapshot that has come, and goes on from it.
func (x *Node) adopt() api.Errno {
	s := x.core.Snap()
	if code := x.store.Put(s); code != api.OK {
		return code
	}
	if code := x.leave(s.Index, x.written(s)); code != api.OK {
		return code
	}
	return x.load(s)
}

// leave takes away from the Wal what a snapshot makes needless: all of it, if it isn't of the same log.
func (x *Node) leave(index int64, same bool) api.Errno {
	if same {
		return x.wal.DropTo(index)
	}
	return x.wal.Reset()
}

// write makes the Wal have what the log has, from an index on.
func (x *Node) write(from int64) api.Errno {
	base, _ := x.core.Log().Base()
	from = max(from, base+1)
	if code := x.wal.CutFrom(from); code != api.OK {
		return code
	}
	if code := x.wal.Append(x.core.Log().Entries(from, math.MaxInt)...); code != api.OK {
		return code
	}
	return x.wal.Sync()
}

// post lets what was sent wait.
func (x *Node) post() api.Errno {
	for _, m := range x.core.Out() {
		// One whose entries are too long has no bytes: it is lost, as any letter may be, and nothing of the disk has failed.
		if b, code := msg.Encode(m); code == api.OK {
			x.letters = append(x.letters, Letter{From: m.From, To: m.To, B: b})
		}
	}
	return api.OK
}

// apply applies what has been committed since.
func (x *Node) apply() api.Errno {
	done := x.machine.Index()
	for _, e := range x.core.Log().Entries(done+1, int(x.core.Commit()-done)) {
		answer, code := x.machine.Apply(e)
		if code != api.OK {
			return code
		}
		x.applied = append(x.applied, Applied{Index: e.Index, Answer: answer})
	}
	return api.OK
}

// compact makes a snapshot, if enough was applied since the last one.
func (x *Node) compact() api.Errno {
	base, _ := x.core.Log().Base()
	index := x.machine.Index()
	if index-base < int64(x.conf.Keep) {
		return api.OK
	}
	if code := x.core.Compact(index, x.machine.Bytes()); code != api.OK {
		return code
	}
	if code := x.store.Put(x.core.Snap()); code != api.OK {
		return code
	}
	return x.wal.DropTo(index)
}
