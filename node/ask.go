package node

import (
	"bytes"
	"math"
	"slices"

	"quillet/api"
	"quillet/msg"
	"quillet/raft"
	"quillet/sub"
)

// Tick lets time pass.
func (x *Node) Tick() api.Errno {
	if x.down {
		return api.ErrDown
	}
	x.core.Tick()
	return x.settle()
}

// Receive takes a message.
func (x *Node) Receive(b []byte) api.Errno {
	if x.down {
		return api.ErrDown
	}
	m, code := msg.Decode(b)
	if code != api.OK {
		return api.ErrForm
	}
	x.core.Step(m)
	return x.settle()
}

// Change asks for a change of the configuration.
func (x *Node) Change(kind, m int) api.Errno {
	if x.down {
		return api.ErrDown
	}
	_, code := x.core.Change(kind, m)
	if down := x.settle(); down != api.OK {
		return down
	}
	return code
}

// Submit asks for a submission's verdict.
func (x *Node) Submit(b []byte) (api.Verdict, api.Errno) {
	if x.down {
		return api.Verdict{}, api.ErrDown
	}
	s, code := sub.Decode(b)
	if code != api.OK {
		return api.Verdict{}, api.ErrForm
	}
	put, code := x.machine.Look(s.Session, s.Seq)
	switch {
	case code == api.ErrTwice:
		return put, api.OK
	case code != api.OK:
		return api.Verdict{Code: code}, api.OK
	case x.core.Role() != raft.Leader:
		return api.Verdict{}, api.ErrLead
	case x.pending(b):
		return api.Verdict{}, api.ErrBusy
	}
	return api.Verdict{}, x.propose(b)
}

// pending tells whether an entry that isn't applied yet has these bytes.
func (x *Node) pending(b []byte) bool {
	return slices.ContainsFunc(x.core.Log().Entries(x.machine.Index()+1, math.MaxInt), func(e api.Entry) bool { return bytes.Equal(e.Data, b) })
}

// propose puts a submission's bytes to the log: even if that is decided at once, it is told to who asks again.
func (x *Node) propose(b []byte) api.Errno {
	if _, code := x.core.Propose(b); code != api.OK {
		return code
	}
	if code := x.settle(); code != api.OK {
		return code
	}
	return api.ErrBusy
}
