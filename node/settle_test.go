package node_test

import (
	"bytes"
	"fmt"
	"slices"
	"strings"
	"testing"

	"quillet/api"
	"quillet/conf"
	"quillet/disk"
	"quillet/machine"
	"quillet/node"
	"quillet/raft"
	"quillet/snap"
)

// steps is how many steps of the disk a call takes: then one less is too few. At each of them the power goes once, and fails is asked.
func steps(t *testing.T, made func() *both, call func(b *both) api.Errno, fails func(step int, b *both)) int {
	t.Helper()
	for n := 1; ; n++ {
		b := made()
		b.fail(n)
		code := call(b)
		if !b.node.Down() {
			return n - 1
		}
		if code != api.ErrDown {
			t.Fatalf("the power goes at step %d: %d", n, code)
		}
		fails(n, b)
		// It may have been opened again.
		if b.node.Down() {
			b.still()
			b.crash(nil)
		}
	}
}

// still asks that a Node that is down answers so, and does nothing, though its disk has power again.
func (b *both) still() {
	b.t.Helper()
	b.letters()
	b.applied()
	for _, power := range []bool{false, true} {
		if power {
			b.disk.Crash(nil)
			b.twin.Crash(nil)
		}
		was := filesOf(b.disk)
		c := b.node.Core()
		term, role, commit := c.Term(), c.Role(), c.Commit()
		last, _ := c.Log().Last()
		if b.tick(30) != api.ErrDown || b.step(api.Msg{Kind: api.Ask, From: 3, To: b.start.n, Term: term + 5, Index: last + 5, LogTerm: term + 5}) != api.ErrDown || b.bytes([]byte("noise")) != api.ErrDown || b.change(conf.Learn, 7) != api.ErrDown || b.change(0, 0) != api.ErrDown {
			b.t.Fatal("it isn't down")
		}
		for _, raw := range [][]byte{nil, []byte("noise"), asked(1, 1, 0, 1), asked(99, 99, 0, 1)} {
			if v, code := b.submit(raw); code != api.ErrDown || v != (api.Verdict{}) {
				b.t.Fatalf("Submit = %v, %d", v, code)
			}
		}
		if again, _ := c.Log().Last(); c.Term() != term || c.Role() != role || c.Commit() != commit || again != last || !b.node.Down() {
			b.t.Fatal("it has done something")
		}
		for name, bytes := range filesOf(b.disk) {
			if string(was[name]) != string(bytes) && !power {
				b.t.Fatalf("%s has changed", name)
			}
		}
		b.none("it is down")
		if len(b.applied()) != 0 {
			b.t.Fatal("applied is something")
		}
	}
}

func (b *both) names(want ...string) {
	b.t.Helper()
	if !slices.Equal(b.disk.Names(), want) {
		b.t.Fatalf("the disk has %v, not %v", b.disk.Names(), want)
	}
}

// P20.1, P20.2: a vote is said when it is kept, not earlier.
func TestVoteIsKeptFirst(t *testing.T) {
	made := func() *both { return of(t, 2, 1, 2, 3) }
	ask := func(b *both) api.Errno { return b.step(api.Msg{Kind: api.Ask, From: 1, To: 2, Term: 5}) }
	n := steps(t, made, ask, func(step int, b *both) { b.none(fmt.Sprint("the power goes at ", step)) })
	if n != 4 {
		t.Errorf("%d steps", n)
	}
	b := made()
	ask(b)
	if m := b.one(); m.Kind != api.Say || !m.Ok || m.Term != 5 {
		t.Errorf("the letter is %v", m)
	}
	b.names("hard")
	b.crash(nil)
	if b.node.Core().Term() != 5 || b.node.Core().Vote() != 1 {
		t.Errorf("term %d, vote %d", b.node.Core().Term(), b.node.Core().Vote())
	}
}

// P20.1, P20.2: that entries have come is said when they are synced, behind the term.
func TestEntriesAreKeptFirst(t *testing.T) {
	made := func() *both { return of(t, 2, 1, 2, 3) }
	es := run(1, 2, 1)
	n := steps(t, made, func(b *both) api.Errno { return b.step(appended(4, 0, 0, 1, es...)) }, func(step int, b *both) {
		b.none(fmt.Sprint("the power goes at ", step))
		if len(b.applied()) != 0 || b.node.Machine().Index() != 0 {
			t.Errorf("the power goes at %d: applied is something", step)
		}
		if saved := slices.Contains(b.disk.Names(), "hard"); saved != (step > 4) {
			t.Errorf("the power goes at %d: %v", step, b.disk.Names())
		}
	})
	// hard: 4; then Create, two Writes, Sync.
	if n != 8 {
		t.Errorf("%d steps", n)
	}
	made = func() *both {
		b := of(t, 2, 1, 2, 3)
		b.step(appended(4, 0, 0, 1, es...))
		b.letters()
		b.applied()
		return b
	}
	// Others come from 2 on: hard, Cut, Write, Write, Sync.
	n = steps(t, made, func(b *both) api.Errno { return b.step(appended(6, 1, 1, 3, run(2, 3, 6)...)) }, func(step int, b *both) {
		b.none(fmt.Sprint("the power goes at ", step))
		b.crash(nil)
		if l := b.node.Core().Log(); !l.Has(1, 1) || l.Has(2, 1) != (step <= 5) {
			t.Errorf("the power goes at %d: %v", step, l.Entries(0, 9))
		}
	})
	if n != 8 {
		t.Errorf("%d steps", n)
	}
	b := made()
	b.step(appended(6, 1, 1, 3, run(2, 3, 6)...))
	if m := b.one(); m.Kind != api.Got || !m.Ok || m.Index != 3 || b.disk.Loose() != 0 || len(b.applied()) != 2 {
		t.Errorf("the letter is %v", m)
	}
}

// P20.1: where nothing has changed, no step of the disk is done.
func TestNoSteps(t *testing.T) {
	b := of(t, 2, 1, 2, 3)
	b.step(appended(4, 0, 0, 1, run(1, 2, 1)...))
	b.fail(1)
	b.tick(13)
	b.step(appended(4, 2, 1, 1), appended(4, 0, 0, 1, run(1, 2, 1)...), appended(4, 2, 1, 2), appended(4, 9, 4, 2), appended(3, 2, 1, 2))
	b.step(api.Msg{Kind: api.PreAsk, From: 3, To: 2, Term: 9, Index: 9, LogTerm: 9})
	b.step(api.Msg{Kind: api.Ask, From: 1, To: 3, Term: 90})
	b.bytes([]byte("noise"))
	b.submit([]byte("noise"))
	b.submit(asked(1, 1, 0, 1))
	b.change(conf.Learn, 4)
	if b.node.Down() || b.disk.Down() {
		t.Error("a step was done")
	}
	if b.step(api.Msg{Kind: api.Ask, From: 3, To: 2, Term: 90}) != api.ErrDown {
		t.Error("no step was done")
	}
}

// P20.1: what is said and applied is there, though the snapshot behind it fails.
func TestLettersAndAppliedOfOneThatGoesDown(t *testing.T) {
	made := func() *both {
		b := newBoth(t, start{2, voters(1, 2), node.Conf{Cert: room, Keep: 2}})
		b.step(appended(4, 0, 0, 0, run(1, 3, 1)...))
		b.letters()
		return b
	}
	commit := func(b *both) api.Errno { return b.step(appended(4, 3, 1, 2)) }
	n := steps(t, made, commit, func(step int, b *both) {
		if m := b.one(); m.Kind != api.Got || !m.Ok || m.Index != 3 {
			t.Errorf("the power goes at %d: the letter is %v", step, m)
		}
		b.none("it was taken")
		if as := b.applied(); len(as) != 2 || as[1].Index != 2 || !as[1].Answer.Fresh || len(b.applied()) != 0 {
			t.Errorf("the power goes at %d: applied is %v", step, as)
		}
		if b.node.Machine().Index() != 2 || b.node.Core().Commit() != 2 {
			t.Errorf("the power goes at %d: commit is %d", step, b.node.Core().Commit())
		}
		b.crash(nil)
		if base, _ := b.node.Core().Log().Base(); base != 0 || len(b.node.Core().Log().Entries(0, 9)) != 3 {
			t.Errorf("the power goes at %d: the base is %d", step, base)
		}
	})
	// snap.tmp: Create, Write, Sync, Rename; all entries are in one segment, so that none is Removed.
	if n != 4 {
		t.Errorf("%d steps", n)
	}
	// What waited ahead of going down is there too, in order.
	b := made()
	b.tick(13)
	b.tick(1)
	b.fail(1)
	commit(b)
	if out := b.letters(); len(out) != 2 || out[0].Kind != api.PreAsk || out[1].Kind != api.Got {
		t.Errorf("the letters are %v", out)
	}
}

// P20.1: a Submit and a Change whose keeping fails are answered so.
func TestWishesOfOneThatGoesDown(t *testing.T) {
	made := func() *both {
		b := newBoth(t, start{1, voters(1), node.Conf{Cert: room, Keep: 3}})
		b.tick(12)
		b.submit(asked(1, 1, 0, 1))
		b.applied()
		return b
	}
	submit := func(b *both) api.Errno {
		v, code := b.submit(asked(1, 2, 0, 2))
		if v != (api.Verdict{}) {
			t.Errorf("Submit = %v, %d", v, code)
		}
		return code
	}
	// Write, Sync; then the snapshot's four, and the Remove of a segment.
	n := steps(t, made, submit, func(step int, b *both) {
		if len(b.applied()) > 0 != (step > 2) {
			t.Errorf("the power goes at %d: applied is %v", step, b.node.Machine().Index())
		}
	})
	if n != 7 {
		t.Errorf("%d steps of Submit", n)
	}
	n = steps(t, made, func(b *both) api.Errno { return b.change(conf.Learn, 2) }, func(step int, b *both) {
		if out := b.letters(); len(out) > 0 != (step > 2) {
			t.Errorf("the power goes at %d: the letters are %v", step, out)
		}
	})
	if n != 7 {
		t.Errorf("%d steps of Change", n)
	}
	b := made()
	if b.change(conf.Learn, 2) != api.OK {
		t.Error("Change")
	}
}

// comes is a snapshot of an index and a term, with the state of a Machine.
func comes(index, term, count int64) snap.Snap {
	return snap.Snap{Index: index, Term: term, Conf: api.Conf{Voters: []int{1, 2}, Learners: []int{3}}, Data: state(count)}
}

// P20.1: a snapshot that comes as a whole is kept, the Wal drops to it or is Reset, and the Machine is its.
func TestSnapshotComes(t *testing.T) {
	for _, x := range []struct {
		what        string
		index, term int64
		first, last int64 // the log's entries behind; 0: none
		segments    bool  // some are left
	}{
		{"an entry in the midst", 10, 1, 11, 20, true},
		{"the last entry", 20, 1, 0, 0, false},
		{"the last but one", 19, 1, 20, 20, true},
		{"the first that isn't committed", 3, 1, 4, 20, true},
		{"an entry of another term", 10, 2, 0, 0, false},
		{"an elder term", 10, 0, 0, 0, false},
		{"far on", 30, 2, 0, 0, false},
		{"just behind", 21, 1, 0, 0, false},
	} {
		t.Run(x.what, func(t *testing.T) {
			b := of(t, 2, 1, 2)
			b.step(appended(3, 0, 0, 2, run(1, 8, 1)...), appended(3, 8, 1, 2, run(9, 16, 1)...), appended(3, 16, 1, 2, run(17, 20, 1)...))
			b.letters()
			b.applied()
			s := comes(x.index, x.term, 5)
			ms := pieces(3, s)
			b.step(ms[:len(ms)-1]...)
			if slices.ContainsFunc(b.disk.Names(), func(name string) bool { return name[0] == 's' }) || b.node.Machine().Index() != 2 {
				t.Fatalf("ahead of the last piece: %v", b.disk.Names())
			}
			b.step(ms[len(ms)-1])
			out := b.letters()
			if m := out[len(out)-1]; m.Kind != api.Took || !m.Last || m.Index != x.index {
				t.Errorf("the letter is %v", m)
			}
			m := b.node.Machine()
			if m.Index() != x.index || m.Count() != 5 || !bytes.Equal(m.Bytes(), s.Data) || len(b.applied()) != 0 {
				t.Errorf("the Machine is at %d, with %d", m.Index(), m.Count())
			}
			if left := strings.Contains(strings.Join(b.disk.Names(), ""), "w"); left != x.segments {
				t.Errorf("the disk has %v", b.disk.Names())
			}
			b.goesOn(s, x.first, x.last)
		})
	}
}

// goesOn asks that behind a crash the log is that of a snapshot, with entries behind, and that it goes on.
func (b *both) goesOn(s snap.Snap, first, last int64) {
	b.t.Helper()
	for range 2 {
		b.crash(nil)
		l := b.node.Core().Log()
		es := l.Entries(0, 99)
		if base, term := l.Base(); base != s.Index || term != s.Term || len(es) != int(max(0, last-first+min(1, first))) || len(es) > 0 && es[0].Index != first {
			b.t.Errorf("the base is %d, %d, behind it %v", base, term, es)
		}
		if m := b.node.Machine(); m.Index() != s.Index || !bytes.Equal(m.Bytes(), s.Data) || !sameSnap(b.node.Core().Snap(), s) {
			b.t.Errorf("the Machine is at %d", m.Index())
		}
	}
	l := b.node.Core().Log()
	last, term := l.Last()
	b.step(appended(9, last, term, last+1, run(last+1, last+2, 9)...))
	if m := b.one(); !m.Ok || m.Index != last+2 {
		b.t.Errorf("the letter is %v", m)
	}
	as := b.applied()
	if len(as) != int(last+1-s.Index) || as[0].Index != s.Index+1 {
		b.t.Errorf("applied is %v", as)
	}
	b.crash(nil)
	if now, _ := b.node.Core().Log().Last(); now != last+2 {
		b.t.Errorf("the last is %d", now)
	}
}

// P20.1, P20.2: the power goes at each step of a snapshot's coming.
func TestPowerGoesAsSnapshotComes(t *testing.T) {
	// Create, Write, Sync, Rename, Remove of the elder one; then of the first segment, or of both.
	for want, s := range map[int]snap.Snap{6: comes(10, 1, 5), 7: comes(30, 2, 9)} {
		ms := pieces(3, s)
		made := func() *both {
			b := newBoth(t, start{2, voters(1, 2), node.Conf{Cert: room, Keep: 2}})
			b.step(appended(3, 0, 0, 2, run(1, 8, 1)...), appended(3, 8, 1, 2, run(9, 16, 1)...))
			b.step(ms[:len(ms)-1]...)
			b.letters()
			return b
		}
		n := steps(t, made, func(b *both) api.Errno { return b.step(ms[len(ms)-1]) }, func(step int, b *both) {
			b.none(fmt.Sprint("the power goes at ", step))
			if b.node.Machine().Index() != 2 {
				t.Errorf("the power goes at %d: the Machine is at %d", step, b.node.Machine().Index())
			}
			was := b.node.Core()
			b.crash(nil)
			index := b.node.Machine().Index()
			if index != 2 && index != s.Index || was.Snap().Index != s.Index {
				t.Errorf("the power goes at %d: the Machine is at %d", step, index)
			}
		})
		if n != want {
			t.Errorf("the snapshot of %d: %d steps", s.Index, n)
		}
	}
}

// P20.1: a snapshot whose Data are none's takes the Node down; it is kept, and Open refuses it.
func TestSnapshotOfNone(t *testing.T) {
	for _, s := range []snap.Snap{{Index: 2, Term: 1, Conf: voters(1, 2), Data: []byte("none's")}, {Index: 9, Term: 3, Conf: voters(1, 2)}} {
		b := of(t, 2, 1, 2)
		b.step(appended(3, 0, 0, 1, run(1, 4, 1)...))
		b.letters()
		if code := b.step(pieces(3, s)...); code != api.ErrDown || !b.node.Down() || b.disk.Down() {
			t.Errorf("Receive = %d", code)
		}
		b.none("none's Data")
		if b.node.Machine().Index() != 1 || b.node.Core().Snap().Index != s.Index {
			t.Errorf("the Machine is at %d", b.node.Machine().Index())
		}
		b.still()
		if code := b.open(); code != api.ErrForm {
			t.Errorf("Open = %d", code)
		}
		if b.met["down: 2, none's Data"] != 1 {
			t.Errorf("%v", b.met)
		}
	}
}

// P20.1: a snapshot for a certifier that keeps fewer is none's.
func TestSnapshotOfAnotherConf(t *testing.T) {
	m := machine.New(room)
	for i := range int64(4) {
		m.Apply(submitted(i+1, 1, asked(1, i+1, 0, float64(i))))
	}
	s := snap.Snap{Index: 9, Term: 1, Conf: voters(1, 2), Data: m.Bytes()}
	b := newBoth(t, start{n: 2, boot: voters(1, 2)})
	if code := b.step(pieces(3, s)...); code != api.ErrDown {
		t.Errorf("Receive = %d", code)
	}
	b = of(t, 2, 1, 2)
	if code := b.step(pieces(3, s)...); code != api.OK || b.node.Machine().Count() != 4 {
		t.Errorf("Receive = %d", code)
	}
}

// P20.1: a disk with power that has no room for a file takes the Node down too.
func TestNoRoomForFiles(t *testing.T) {
	full := func(b *both, left int) {
		for i := 0; len(b.disk.Names()) < api.MaxFiles-left; i++ {
			b.files(map[string][]byte{fmt.Sprint("x", i): nil})
		}
	}
	b := of(t, 2, 1, 2)
	full(b, 0)
	if b.step(api.Msg{Kind: api.Ask, From: 1, To: 2, Term: 5}) != api.ErrDown || b.disk.Down() {
		t.Error("hard.tmp was made")
	}
	b.none("no room")
	b.still()
	b = of(t, 2, 1, 2)
	full(b, 1)
	if b.step(appended(5, 0, 0, 1, run(1, 2, 1)...)) != api.ErrDown || b.disk.Down() || !slices.Contains(b.disk.Names(), "hard") {
		t.Error("a segment was made")
	}
	b.none("no room")
	b = newBoth(t, start{2, voters(1, 2), node.Conf{Keep: 1}})
	full(b, 2)
	if b.step(appended(5, 0, 0, 1, run(1, 2, 1)...)) != api.ErrDown || b.disk.Down() || len(b.applied()) != 1 {
		t.Error("a snapshot was made")
	}
	b.still()
}

// P20.1: a message whose entries are too long for layer 17 has no bytes, and isn't a letter; all else goes on.
func TestMessageWithoutBytes(t *testing.T) {
	b := of(t, 2, 1, 2, 3)
	long := func(index int64) api.Entry { return submitted(index, 1, make([]byte, 2048)) }
	b.step(appended(1, 0, 0, 0, long(1)), appended(1, 1, 1, 0, long(2)))
	b.elect(3)
	// From 1 on these are two long ones.
	b.step(api.Msg{Kind: api.Got, From: 3, To: 2, Term: 2})
	if b.met["a message without bytes"] != 1 || b.node.Down() {
		t.Fatalf("%v", b.met)
	}
	b.none("too long")
	b.step(api.Msg{Kind: api.Got, From: 3, To: 2, Term: 2, Index: 1, Ok: true})
	if m := b.one(); len(m.Entries) != 2 || len(m.Entries[0].Data) != 2048 {
		t.Errorf("the letter is %v", m)
	}
	b.tick(2)
	if out := b.letters(); len(out) != 2 || out[0].To != 1 {
		t.Errorf("the letters are %v", out)
	}
}

// P20.1: what can't come any more: behind the greatest index, and of a term that the log is ahead of.
func TestSubmitRefused(t *testing.T) {
	at := func(index, term int64) *both {
		b := laid(t, start{1, voters(1), node.Conf{Cert: room}})
		b.files(snapFile(snap.Snap{Index: index, Term: term, Conf: voters(1), Data: state(1)}))
		b.mustOpen()
		b.tick(12)
		if b.node.Core().Role() != raft.Leader || b.node.Core().Term() != 1 {
			t.Fatal("it doesn't lead")
		}
		return b
	}
	for _, x := range []struct {
		index, term int64
		code        api.Errno
	}{{api.MaxNumber, 1, api.ErrMany}, {api.MaxNumber - 1, 1, api.ErrMany}, {5, 2, api.ErrOrder}, {api.MaxNumber - 2, 1, api.ErrBusy}} {
		b := at(x.index, x.term)
		b.fail(0)
		if v, code := b.submit(asked(1, 1, 0, 1)); code != x.code || v != (api.Verdict{}) || b.node.Down() {
			t.Errorf("behind %d: %v, %d", x.index, v, code)
		}
		if v, code := b.submit(asked(9, 1, 0, 1)); code != api.OK || v.Num != 1 {
			t.Errorf("behind %d: %v, %d", x.index, v, code)
		}
	}
}

// P20.1: a Node and the disk that it is on; another disk has nothing of it.
func TestTwoNodes(t *testing.T) {
	one, two := of(t, 1, 1), of(t, 1, 1)
	one.tick(12)
	two.told("the other one's ticks")
	if len(two.disk.Names()) != 0 || two.node.Core().Role() == raft.Leader {
		t.Error("they share")
	}
	if x, code := node.Open(1, voters(1), node.Conf{}, disk.New()); code != api.OK || x.Core().Term() != 0 {
		t.Error("they share")
	}
}
