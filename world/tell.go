package world

import (
	"maps"
	"slices"

	"quillet/api"
	"quillet/client"
	"quillet/node"
	"quillet/raft"
	"quillet/sub"
)

// Decided is what was decided.
func (w *World) Decided() []Decision {
	var out []Decision
	for _, index := range slices.Sorted(maps.Keys(w.decided)) {
		out = append(out, Decision{index, w.decided[index]})
	}
	return out
}

// Parted tells whether members have parted.
func (w *World) Parted() bool { return w.parted }

// History is the transactions that were decided to commit.
func (w *World) History() []api.Done {
	var out []api.Done
	for _, d := range w.Decided() {
		// What is applied again, as a number that was decided, has committed once all the same.
		if a := d.Answer; a.Fresh && a.Verdict.Code == api.OK {
			s, _ := sub.Decode(w.submitted[[2]int64{a.Session, a.Seq}])
			out = append(out, api.Done{Num: a.Verdict.Num, Sub: s})
		}
	}
	return out
}

// Client is a client.
func (w *World) Client(n int) *client.Client { return at(w.clients, n) }

// Node is the node of a member that is up.
func (w *World) Node(n int) *node.Node {
	if m := at(w.members, n); m != nil {
		return m.node
	}
	return nil
}

// Leader is who leads.
func (w *World) Leader() int {
	leader, term := 0, int64(0)
	for _, m := range w.members {
		if m.node == nil || m.node.Core().Role() != raft.Leader {
			continue
		}
		// A Leader's term is at least 1.
		if t := m.node.Core().Term(); t > term {
			leader, term = m.n, t
		}
	}
	return leader
}
