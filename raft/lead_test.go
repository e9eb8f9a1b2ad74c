package raft_test

import (
	"bytes"
	"slices"
	"strings"
	"testing"

	"quillet/api"
	"quillet/conf"
	"quillet/raft"
	"quillet/snap"
)

// leads is a Leader, 1, of voters 1, 2, 3 in term 1, whose Noop is the first entry; what it has sent is taken.
func leads(t *testing.T) *both {
	t.Helper()
	b := of(t, 1, 1, 2, 3)
	b.elect(2)
	b.out()
	return b
}

// P18.1: a Leader sends at every second tick, and only then.
func TestBeat(t *testing.T) {
	b := leads(t)
	for range 5 {
		b.tick(1)
		b.none("too early")
		b.tick(1)
		if out := b.out(); len(out) != 2 || out[0].To != 2 || out[1].To != 3 || out[0].Kind != api.Append {
			t.Fatalf("%v", out)
		}
	}
	// Proposing doesn't put it off.
	b.tick(1)
	b.propose(nil)
	b.out()
	b.tick(1)
	if out := b.out(); len(out) != 2 {
		t.Fatalf("%v", out)
	}
}

// P18.1: what is known of a member begins where the Leader's log ended when it first sent; it is sent from there on until it has answered.
func TestNextOfOneUnknown(t *testing.T) {
	b := newBoth(t, start{n: 1, term: 4, conf: voters(1, 2, 3), es: []api.Entry{noop(1, 2), noop(2, 3)}})
	b.elect(3)
	if out := b.out(); len(out) != 2 || out[0].Index != 2 || out[0].LogTerm != 3 || len(out[0].Entries) != 1 || out[0].Entries[0].Term != 5 {
		t.Fatalf("%v", out)
	}
	for i := range 9 {
		b.propose([]byte("x"))
		out := b.out()
		if len(out) != 2 || out[0].Index != 2 || len(out[0].Entries) != min(8, i+2) || b.core.Match(2) != 0 {
			t.Fatalf("%v", out)
		}
	}
	b.got(2, 3)
	if m := b.out(); len(m) != 2 || m[0].To != 2 || m[0].Index != 3 || len(m[0].Entries) != 8 || m[0].Commit != 3 || m[1].Index != 2 || m[1].Commit != 3 || b.core.Match(2) != 3 {
		t.Fatalf("%v", m)
	}
}

// P18.1: a member that hasn't what is ahead is sent from further back on, but not from what it is known to have.
func TestGotNotOk(t *testing.T) {
	es := []api.Entry{}
	for i := range int64(20) {
		es = append(es, submit(i+1, 1, strings.Repeat("x", int(i))))
	}
	b := newBoth(t, start{n: 1, term: 1, conf: voters(1, 2, 3), es: es})
	b.elect(2)
	b.out()
	from := func(lacks, want int64, entries int) {
		t.Helper()
		b.lacks(2, lacks)
		if m := b.one(); m.To != 2 || m.Kind != api.Append || m.Index != want || len(m.Entries) != entries {
			t.Errorf("%v", m)
		}
	}
	from(30, 19, 2)  // next was 21: the one ahead of that
	from(top, 18, 3) // once more
	from(12, 12, 8)  // told
	from(12, 11, 8)  // next less 1 is less
	from(3, 3, 8)    // told
	b.got(2, 2)      // as far as that it is known
	b.out()          //
	from(0, 2, 8)    // not further back
	from(1, 2, 8)    //
	from(2, 2, 8)    //
	b.got(2, 21)     // all
	b.out()          //
	from(0, 21, 0)   // nothing is lost any more
	b.got(2, 1)      // an old answer
	b.none("an old answer")
	if b.core.Match(2) != 21 {
		t.Errorf("match %d", b.core.Match(2))
	}
	b.lacks(3, 0)
	if m := b.one(); m.To != 3 || m.Index != 0 || m.LogTerm != 0 || len(m.Entries) != 8 {
		t.Errorf("%v", m)
	}
	b.lacks(3, 0)
	if m := b.one(); m.Index != 0 {
		t.Errorf("%v", m)
	}
}

// P18.1: what a member says to have, and the Leader hasn't, isn't believed.
func TestGotBeyond(t *testing.T) {
	b := leads(t)
	b.got(2, 2)
	b.got(3, top)
	b.step(api.Msg{Kind: api.Took, From: 2, To: 1, Term: 1, Index: 2, Last: true})
	b.none("beyond the log")
	if b.core.Match(2) != 0 || b.core.Match(3) != 0 || b.core.Commit() != 0 {
		t.Errorf("match %d, commit %d", b.core.Match(2), b.core.Commit())
	}
}

// P18.1: an entry commits when more than half of the voters have it; then all are told.
func TestCommits(t *testing.T) {
	b := newBoth(t, start{n: 1, conf: api.Conf{Voters: []int{1, 2, 3, 4, 5}, Learners: []int{6}}})
	b.elect(2, 3)
	b.out()
	b.propose([]byte("a"))
	b.propose([]byte("b"))
	b.out()
	commit := func(want int64, sent int) {
		t.Helper()
		if out := b.out(); b.core.Commit() != want || len(out) != sent {
			t.Errorf("commit %d, not %d; %v", b.core.Commit(), want, out)
		}
	}
	b.got(6, 3)
	commit(0, 0) // it doesn't vote
	b.got(2, 2)
	commit(0, 1) // the rest to it alone
	b.got(2, 2)
	commit(0, 1) // once more
	b.got(3, 1)
	commit(1, 5)
	b.got(3, 1)
	commit(1, 1)
	b.got(4, 3)
	commit(2, 5)
	b.got(7, 3)
	commit(2, 0) // no member
	b.got(5, 3)
	commit(3, 5)
	b.got(2, 3)
	commit(3, 0)
}

// P18.1: what more than half have of an elder term commits with one of its own only.
func TestElderTermsCommitLater(t *testing.T) {
	b := newBoth(t, start{n: 1, term: 3, conf: voters(1, 2, 3), es: []api.Entry{noop(1, 1), noop(2, 3)}})
	b.elect(2)
	b.out()
	b.got(2, 1)
	b.got(3, 2)
	b.got(2, 2)
	if b.core.Commit() != 0 {
		t.Errorf("commit %d", b.core.Commit())
	}
	b.out()
	b.got(3, 3)
	if out := b.out(); b.core.Commit() != 3 || len(out) != 2 || out[0].Commit != 3 {
		t.Errorf("commit %d, %v", b.core.Commit(), out)
	}
}

// P18.1: answers to one who doesn't lead, or of an elder term, are nothing.
func TestAnswersToNoLeader(t *testing.T) {
	b := of(t, 1, 1, 2, 3)
	answers := []api.Msg{{Kind: api.Got, From: 2, To: 1, Term: 1}, {Kind: api.Got, From: 2, To: 1, Term: 1, Ok: true}, {Kind: api.Took, From: 2, To: 1, Term: 1, Index: 1}, {Kind: api.Took, From: 2, To: 1, Term: 1, Index: 1, Last: true}}
	b.step(answers...)
	b.tick(12)
	b.out()
	b.step(answers...)
	b.step(api.Msg{Kind: api.PreSay, From: 2, To: 1, Term: 2, Ok: true})
	b.out()
	b.step(answers...)
	b.none("an elder term, to a Candidate")
	b.elect(2)
	b.out()
	b.step(answers...)
	b.none("an elder term, to a Leader")
	if b.core.Term() != 3 || b.core.Match(2) != 0 {
		t.Errorf("term %d, match %d", b.core.Term(), b.core.Match(2))
	}
}

// P18.1: who leads again knows nothing of the others.
func TestLeadsAgain(t *testing.T) {
	b := leads(t)
	b.got(2, 1)
	b.propose([]byte("x"))
	b.out()
	b.step(api.Msg{Kind: api.Say, From: 3, To: 1, Term: 7})
	if b.core.Match(2) != 0 {
		t.Error("a Follower knows a match")
	}
	b.elect(3)
	if out := b.out(); len(out) != 2 || b.core.Match(2) != 0 || out[0].Index != 2 || out[0].Commit != 1 || b.core.Term() != 8 {
		t.Errorf("%v", out)
	}
	b.got(2, 1)
	b.lacks(2, 0)
	if out := b.out(); len(out) != 2 || out[0].Index != 2 || out[1].Index != 1 || len(out[1].Entries) != 2 {
		t.Errorf("%v", out)
	}
}

// longSnap is a Leader, 1, whose log begins behind 3, with a snapshot of some bytes.
func longSnap(t *testing.T, size int) (*both, []byte) {
	t.Helper()
	b := leads(t)
	b.propose([]byte("a"))
	b.propose([]byte("b"))
	b.propose([]byte("c"))
	b.got(2, 3)
	b.out()
	data := make([]byte, size)
	for i := range data {
		data[i] = byte(i*7 + i>>8)
	}
	if b.compact(3, data) != api.OK {
		t.Fatal("no snapshot")
	}
	b.none("Compact sends nothing")
	return b, data
}

// P18.1: one that lacks what is dropped is sent the snapshot, piece by piece, and then the rest.
func TestSendsSnapshot(t *testing.T) {
	for _, size := range []int{0, 1, 63, 64, 65, 127, 128, 129, 1000, 32768} {
		b, data := longSnap(t, size)
		b.lacks(3, 0)
		var came []byte
		for n := 0; ; n++ {
			m := b.one()
			if m.Kind != api.Piece || m.Index != 3 || m.LogTerm != 1 || !sameConf(m.Conf, voters(1, 2, 3)) || int(m.Off) != len(came) || len(m.Data) != min(64, size-len(came)) {
				t.Fatalf("%d: %v", size, m)
			}
			came = append(came, m.Data...)
			if m.Last != (len(came) == size) {
				t.Fatalf("%d: Last of %d bytes", size, len(came))
			}
			took := api.Msg{Kind: api.Took, From: 3, To: 1, Term: 1, Index: 3, Off: int64(len(came)), Last: m.Last}
			b.step(took)
			if m.Last {
				break
			}
		}
		if !bytes.Equal(came, data) || b.core.Match(3) != 3 {
			t.Fatalf("%d: came %d bytes; match %d", size, len(came), b.core.Match(3))
		}
		if m := b.one(); m.Kind != api.Append || m.To != 3 || m.Index != 3 || m.LogTerm != 1 || len(m.Entries) != 1 {
			t.Fatalf("%d: %v", size, m)
		}
	}
}

// P18.1: how many bytes one has is what it says last; at most all. What isn't of this snapshot, or of one who needs none, is nothing.
func TestTook(t *testing.T) {
	b, _ := longSnap(t, 200)
	took := func(from int, index, off int64) {
		t.Helper()
		b.step(api.Msg{Kind: api.Took, From: from, To: 1, Term: 1, Index: index, Off: off})
	}
	sent := func(off int64, size int, last bool) {
		t.Helper()
		if m := b.one(); m.Kind != api.Piece || m.To != 3 || m.Off != off || len(m.Data) != size || m.Last != last {
			t.Errorf("%v", m)
		}
	}
	took(3, 3, 64)
	// 3's next is 1 ever since the Leader began.
	sent(64, 64, false)
	took(3, 3, 190)
	sent(190, 10, true)
	took(3, 3, 0)
	sent(0, 64, false)
	took(3, 3, 137)
	sent(137, 63, true)
	took(3, 3, 136)
	sent(136, 64, true)
	took(3, 3, 200)
	sent(200, 0, true)
	took(3, 3, 32768)
	sent(200, 0, true)
	took(3, 2, 64)
	took(3, 4, 64)
	b.none("another snapshot")
	took(2, 3, 64)
	b.none("one that needs none")
	took(5, 3, 64)
	b.none("no member")
	b.tick(2)
	if out := b.out(); len(out) != 2 || out[0].Kind != api.Append || out[1].Kind != api.Piece || out[1].Off != 200 {
		t.Errorf("%v", out)
	}
	// Another snapshot: it has nothing of that.
	b.got(2, 4)
	b.out()
	b.compact(4, make([]byte, 100))
	b.tick(2)
	if out := b.out(); len(out) != 2 || out[1].Index != 4 || out[1].Off != 0 || len(out[1].Data) != 64 {
		t.Errorf("%v", out)
	}
	b.step(api.Msg{Kind: api.Took, From: 3, To: 1, Term: 1, Index: 3, Off: 200, Last: true})
	if m := b.one(); m.Kind != api.Piece || m.Index != 4 || b.core.Match(3) != 3 {
		t.Errorf("%v, match %d", m, b.core.Match(3))
	}
	b.step(api.Msg{Kind: api.Took, From: 3, To: 1, Term: 1, Index: 4, Off: 100, Last: true})
	b.none("it has all")
}

// P18.1, P18.3: where there is no snapshot of what is dropped, nothing is sent.
func TestNoSnapshotToSend(t *testing.T) {
	for _, s := range []snap.Snap{{}, {Index: -1, Conf: voters(1)}, {Index: 4, Term: 2}, {Index: 4, Term: -1, Conf: voters(1)}, {Index: top + 1, Conf: voters(1)}} {
		b := newBoth(t, start{n: 1, term: 2, base: 4, baseTerm: 2, conf: voters(1, 2), snap: s})
		b.elect(2)
		b.out()
		b.lacks(2, 0)
		b.none("no snapshot")
		b.tick(2)
		b.none("no snapshot")
		b.got(2, 4)
		if m := b.one(); m.Kind != api.Append || m.Index != 4 || len(m.Entries) != 1 {
			t.Errorf("%v", m)
		}
	}
}

// P18.1: what is proposed comes behind the last one, and goes to all.
func TestPropose(t *testing.T) {
	b := leads(t)
	b.dirty()
	for i, size := range []int{0, 1, 2047, 2048} {
		data := bytes.Repeat([]byte{byte(i)}, size)
		index, code := b.propose(data)
		if index != int64(i+2) || code != api.OK {
			t.Fatalf("Propose = %d, %d", index, code)
		}
		e := b.core.Log().Entries(index, 1)[0]
		if e.Kind != api.Submit || e.Term != 1 || !bytes.Equal(e.Data, data) {
			t.Fatalf("%v", e)
		}
		if out := b.out(); len(out) != 2 || out[0].To != 2 || len(out[0].Entries) != i+2 {
			t.Fatalf("%v", out)
		}
		if from, _ := b.dirty(); from != index {
			t.Fatalf("dirty %d", from)
		}
	}
	for _, size := range []int{2049, 4096, 1 << 20} {
		if index, code := b.propose(make([]byte, size)); index != 0 || code != api.ErrLong {
			t.Errorf("Propose = %d, %d", index, code)
		}
	}
	b.none("too long")
	if from, _ := b.dirty(); from != 0 {
		t.Errorf("dirty %d", from)
	}
}

// P18.1: who doesn't lead proposes and changes nothing; that is told first.
func TestWishesOfNoLeader(t *testing.T) {
	b := of(t, 1, 1, 2, 3)
	ask := func() {
		t.Helper()
		for _, size := range []int{0, 5000} {
			if index, code := b.propose(make([]byte, size)); index != 0 || code != api.ErrLead {
				t.Errorf("Propose = %d, %d", index, code)
			}
		}
		for kind := -1; kind < 6; kind++ {
			if index, code := b.change(kind, 1); index != 0 || code != api.ErrLead {
				t.Errorf("Change = %d, %d", index, code)
			}
		}
		b.none("it doesn't lead")
	}
	ask()
	b.tick(12)
	b.out()
	ask()
	b.step(api.Msg{Kind: api.PreSay, From: 2, To: 1, Term: 1, Ok: true})
	b.out()
	ask()
}

// P18.1: at the greatest index nothing comes any more; all else goes on.
func TestTopIndex(t *testing.T) {
	b := newBoth(t, start{n: 1, term: 3, base: top - 2, baseTerm: 3, conf: api.Conf{Voters: []int{1}, Learners: []int{2}}, snap: snap.Snap{Index: top - 2, Term: 3, Conf: voters(1), Data: []byte("x")}})
	b.elect()
	if b.core.Commit() != top-1 {
		t.Fatalf("commit %d", b.core.Commit())
	}
	if index, code := b.propose(nil); index != top || code != api.OK || b.core.Commit() != top {
		t.Errorf("Propose = %d, %d", index, code)
	}
	b.out()
	b.dirty()
	if index, code := b.propose(nil); index != 0 || code != api.ErrMany {
		t.Errorf("Propose = %d, %d", index, code)
	}
	if _, code := b.propose(make([]byte, 2049)); code != api.ErrLong {
		t.Errorf("Propose = %d", code)
	}
	if index, code := b.change(conf.Learn, 3); index != 0 || code != api.ErrMany {
		t.Errorf("Change = %d, %d", index, code)
	}
	if _, code := b.change(conf.Promote, 2); code != api.ErrBusy {
		t.Errorf("Change = %d", code)
	}
	b.none("nothing comes")
	if from, _ := b.dirty(); from != 0 {
		t.Errorf("dirty %d", from)
	}
	b.got(2, top)
	if _, code := b.change(conf.Promote, 2); code != api.ErrMany {
		t.Errorf("Change = %d", code)
	}
	b.compact(top, []byte("all"))
	// It leads again, without a Noop.
	b.step(api.Msg{Kind: api.Say, From: 2, To: 1, Term: 8})
	b.tick(12)
	if last, term := b.core.Log().Last(); last != top || term != 4 || b.core.Term() != 9 || b.core.Role() != raft.Leader {
		t.Errorf("last %d, %d", last, term)
	}
	if m := b.one(); m.Kind != api.Piece || m.Index != top {
		t.Errorf("%v", m)
	}
	b.got(2, top)
	b.none("nothing to come")
	b.lacks(2, top)
	if m := b.one(); m.Kind != api.Append || m.Index != top || len(m.Entries) != 0 {
		t.Errorf("%v", m)
	}
	if _, code := b.change(conf.Learn, 3); code != api.ErrBusy {
		t.Errorf("Change = %d", code)
	}
}

// P18.1: one learns, votes, and goes.
func TestChange(t *testing.T) {
	b := leads(t)
	b.got(2, 1)
	b.dirty()
	b.out()
	if index, code := b.change(conf.Learn, 5); index != 2 || code != api.OK {
		t.Fatalf("Change = %d, %d", index, code)
	}
	if c, at := b.core.Log().Conf(); at != 2 || !sameConf(c, api.Conf{Voters: []int{1, 2, 3}, Learners: []int{5}}) {
		t.Errorf("%v, %d", c, at)
	}
	if from, _ := b.dirty(); from != 2 {
		t.Errorf("dirty %d", from)
	}
	// It begins with the change itself.
	if out := b.out(); len(out) != 3 || out[2].To != 5 || out[2].Index != 1 || len(out[2].Entries) != 1 || out[2].Entries[0].Kind != api.Change {
		t.Errorf("%v", out)
	}
	if _, code := b.change(conf.Learn, 6); code != api.ErrBusy {
		t.Errorf("under way: %d", code)
	}
	b.got(5, 2)
	if b.core.Commit() != 1 || b.core.Match(5) != 2 {
		t.Errorf("commit %d, match %d", b.core.Commit(), b.core.Match(5))
	}
	b.got(3, 2)
	b.out()
	if index, code := b.change(conf.Promote, 5); index != 3 || code != api.OK || b.core.Match(5) != 2 {
		t.Fatalf("Change = %d, %d, match %d", index, code, b.core.Match(5))
	}
	if out := b.out(); len(out) != 3 || out[2].To != 5 || out[2].Index != 2 {
		t.Errorf("%v", out)
	}
	b.got(3, 3)
	if b.core.Commit() != 2 {
		t.Error("two of four are enough")
	}
	b.got(5, 3)
	if b.core.Commit() != 3 {
		t.Error("three of four aren't enough")
	}
	b.out()
	if index, code := b.change(conf.Remove, 2); index != 4 || code != api.OK || b.core.Match(2) != 0 {
		t.Fatalf("Change = %d, %d, match %d", index, code, b.core.Match(2))
	}
	if out := b.out(); len(out) != 2 || out[0].To != 3 || out[1].To != 5 {
		t.Errorf("%v", out)
	}
	b.got(2, 4)
	b.lacks(2, 0)
	b.none("it doesn't belong any more")
	b.got(5, 4)
	b.out()
	// It comes again, and nothing is known of it.
	if index, code := b.change(conf.Learn, 2); index != 5 || code != api.OK || b.core.Match(2) != 0 {
		t.Fatalf("Change = %d, %d", index, code)
	}
	if out := b.out(); len(out) != 3 || out[0].To != 2 || out[0].Index != 4 {
		t.Errorf("%v", out)
	}
}

// P18.1: a change that makes fewer voters enough commits at once.
func TestRemoveCommits(t *testing.T) {
	b := of(t, 1, 1, 2)
	b.elect(2)
	b.got(2, 1)
	b.propose([]byte("x"))
	b.out()
	if index, code := b.change(conf.Remove, 2); index != 3 || code != api.OK || b.core.Commit() != 3 {
		t.Errorf("Change = %d, %d; commit %d", index, code, b.core.Commit())
	}
	b.none("nobody is left")
}

// P18.1: why a change may not be, the first reason first.
func TestChangeErrors(t *testing.T) {
	told := func(b *both, kind, m int, want api.Errno) {
		t.Helper()
		if index, code := b.change(kind, m); index != 0 || code != want {
			t.Errorf("Change(%d, %d) = %d, %d; not %d", kind, m, index, code, want)
		}
		b.none("a change that may not be")
	}
	b := newBoth(t, start{n: 1, conf: api.Conf{Voters: []int{1, 2, 3}, Learners: []int{4}}})
	b.elect(2)
	b.out()
	// Nothing of its term has committed.
	for kind := -1; kind < 6; kind++ {
		told(b, kind, 1, api.ErrBusy)
	}
	b.got(3, 1)
	b.out()
	told(b, conf.Remove, 1, api.ErrArg)
	told(b, 0, 1, api.ErrArg)
	told(b, 4, 5, api.ErrArg)
	told(b, conf.Learn, 0, api.ErrArg)
	told(b, conf.Learn, 8, api.ErrArg)
	told(b, conf.Learn, 2, api.ErrTwice)
	told(b, conf.Learn, 4, api.ErrTwice)
	told(b, conf.Learn, 1, api.ErrTwice)
	told(b, conf.Promote, 2, api.ErrNone)
	told(b, conf.Promote, 5, api.ErrNone)
	told(b, conf.Remove, 5, api.ErrNone)
	told(b, conf.Promote, 4, api.ErrBusy)
	b.got(4, 1)
	b.propose(nil)
	b.got(2, 2)
	b.out()
	told(b, conf.Promote, 4, api.ErrBusy)
	b.got(4, 2)
	b.out()
	if _, code := b.change(conf.Promote, 4); code != api.OK {
		t.Errorf("Promote = %d", code)
	}
	b.out()
	told(b, conf.Remove, 1, api.ErrBusy)

	// An elder one's change that hasn't committed, and then one's own term that hasn't.
	b = newBoth(t, start{n: 1, term: 1, conf: voters(1, 2, 3), es: []api.Entry{change(1, 1, api.Conf{Voters: []int{1, 2, 3}, Learners: []int{4}})}})
	b.elect(2)
	b.out()
	told(b, conf.Learn, 5, api.ErrBusy)
	b.got(2, 1)
	b.out()
	told(b, conf.Learn, 5, api.ErrBusy)
	b.got(2, 2)
	b.out()
	if _, code := b.change(conf.Learn, 5); code != api.OK {
		t.Errorf("Learn = %d", code)
	}
}

// P18.1: a change may be made though the entry at commit is the base.
func TestChangeAtTheBase(t *testing.T) {
	b := of(t, 1, 1)
	b.elect()
	b.compact(1, []byte("x"))
	if index, code := b.change(conf.Learn, 2); index != 2 || code != api.OK {
		t.Errorf("Change = %d, %d", index, code)
	}
	if m := b.one(); m.Kind != api.Append || m.Index != 1 || m.Commit != 2 {
		t.Errorf("%v", m)
	}
}

// P18.1: a snapshot is of its index: the term and the configuration there.
func TestCompact(t *testing.T) {
	b := newBoth(t, rich())
	b.answers(t, appended(8, 5, 7), true, 8)
	b.dirty()
	for _, index := range []int64{-1, 0, 3, 4, 8, 9, top, -top} {
		if code := b.compact(index, []byte("x")); code != api.ErrArg {
			t.Errorf("Compact(%d) = %d", index, code)
		}
	}
	if b.compact(5, make([]byte, 32769)) != api.ErrArg || b.compact(5, make([]byte, 32768)) != api.OK {
		t.Error("at most 32768 bytes")
	}
	if s := b.core.Snap(); s.Index != 5 || s.Term != 2 || !sameConf(s.Conf, voters(1, 2, 3)) || len(s.Data) != 32768 {
		t.Errorf("%v", s)
	}
	if code := b.compact(7, nil); code != api.OK {
		t.Errorf("Compact = %d", code)
	}
	if s := b.core.Snap(); s.Index != 7 || s.Term != 3 || !sameConf(s.Conf, voters(1, 2, 3, 4)) || len(s.Data) != 0 {
		t.Errorf("%v", s)
	}
	if i, term := b.core.Log().Base(); i != 7 || term != 3 || b.core.Commit() != 7 {
		t.Errorf("base %d, %d", i, term)
	}
	if from, whole := b.dirty(); from != 0 || whole {
		t.Errorf("dirty %d, %v", from, whole)
	}
	b.none("Compact sends nothing")
	if b.compact(7, nil) != api.ErrArg || b.compact(6, nil) != api.ErrArg {
		t.Error("it is dropped already")
	}
}

// P18.1: what was sent waits until it is taken, in order, and once.
func TestOut(t *testing.T) {
	b := leads(t)
	b.propose([]byte("a"))
	b.propose([]byte("b"))
	b.got(2, 1)
	b.lacks(3, 0)
	out := b.out()
	var tos []int
	for _, m := range out {
		tos = append(tos, m.To)
	}
	if !slices.Equal(tos, []int{2, 3, 2, 3, 2, 3, 3}) || len(out[0].Entries) != 2 || len(out[2].Entries) != 3 || out[3].Commit != 0 || out[4].Commit != 1 {
		t.Errorf("%v", out)
	}
	b.none("taken already")
	if b.core.Role() != raft.Leader {
		t.Error("no Leader")
	}
}
