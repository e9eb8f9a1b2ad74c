package raft_test

import (
	"bytes"
	"slices"
	"strings"
	"testing"

	"quillet/api"
	"quillet/raft"
	"quillet/snap"
)

// rich is a Follower, 2, of term 9: base 4 of term 2, a change at 6, the last 8 of term 5.
func rich() start {
	return start{n: 2, term: 9, base: 4, baseTerm: 2, conf: voters(1, 2, 3),
		es:   []api.Entry{noop(5, 2), change(6, 3, voters(1, 2, 3, 4)), submit(7, 3, "seven"), submit(8, 5, "eight")},
		snap: snap.Snap{Index: 4, Term: 2, Conf: voters(1, 2, 3), Data: []byte("four")}}
}

func appended(index, logTerm, commit int64, es ...api.Entry) api.Msg {
	return api.Msg{Kind: api.Append, From: 1, To: 2, Term: 9, Index: index, LogTerm: logTerm, Commit: commit, Entries: es}
}

// answers asks for Got, and its Ok and Index.
func (b *both) answers(t *testing.T, m api.Msg, ok bool, index int64) {
	t.Helper()
	b.step(m)
	if got := b.one(); got.Kind != api.Got || got.Ok != ok || got.Index != index || got.Term != b.core.Term() || got.To != m.From {
		t.Errorf("%v: %v", m, got)
	}
	if b.core.Role() != raft.Follower || b.core.Lead() != m.From {
		t.Errorf("%v: role %d, lead %d", m, b.core.Role(), b.core.Lead())
	}
}

// P18.1: the log must have what is ahead; else it is told from where on to try.
func TestAppendOfAnotherLog(t *testing.T) {
	for _, x := range []struct{ index, logTerm, want int64 }{
		{9, 5, 8}, {10, 5, 8}, {top, 9, 8}, {8, 4, 7}, {8, 6, 7}, {7, 5, 6}, {5, 3, 4}, {4, 1, 3}, {4, 3, 3}, {9, 0, 8},
	} {
		b := newBoth(t, rich())
		b.answers(t, appended(x.index, x.logTerm, 8), false, x.want)
		if b.core.Commit() != 4 {
			t.Errorf("%v: commit %d", x, b.core.Commit())
		}
		if from, _ := b.dirty(); from != 0 {
			t.Errorf("%v: dirty %d", x, from)
		}
	}
	b := of(t, 2, 1, 2)
	b.answers(t, appended(0, 1, 0), false, 0)
	b.answers(t, appended(1, 1, 0), false, 0)
	b.answers(t, appended(5, 0, 0), false, 0)
}

// P18.1: entries that are there already stay; commit goes no further than what is known to be the same.
func TestAppendOfWhatIsThere(t *testing.T) {
	b := newBoth(t, rich())
	b.answers(t, appended(8, 5, 0), true, 8)
	b.answers(t, appended(4, 2, 0), true, 4)
	b.answers(t, appended(5, 2, 5, change(6, 3, voters(1, 2, 3, 4))), true, 6)
	if b.core.Commit() != 5 {
		t.Errorf("commit %d", b.core.Commit())
	}
	b.answers(t, appended(5, 2, 100, change(6, 3, voters(1, 2, 3, 4)), submit(7, 3, "seven")), true, 7)
	if b.core.Commit() != 7 {
		t.Errorf("commit %d", b.core.Commit())
	}
	// Less is known to be the same now: commit stays.
	b.answers(t, appended(5, 2, 6), true, 5)
	b.answers(t, appended(5, 2, 0), true, 5)
	if from, whole := b.dirty(); from != 0 || whole || b.core.Commit() != 7 {
		t.Errorf("dirty %d, commit %d", from, b.core.Commit())
	}
	if last, _ := b.core.Log().Last(); last != 8 {
		t.Errorf("last %d", last)
	}
	// What an entry has isn't asked for: its index and term tell it.
	b.answers(t, appended(7, 3, 0, submit(8, 5, "another")), true, 8)
	if es := b.core.Log().Entries(8, 1); string(es[0].Data) != "eight" {
		t.Errorf("%v", es)
	}
}

// P18.1: from the first entry of another term on the log is cut.
func TestAppendCuts(t *testing.T) {
	b := newBoth(t, rich())
	b.answers(t, appended(5, 2, 0, change(6, 3, voters(1, 2, 3, 4)), submit(7, 4, "other")), true, 7)
	if from, whole := b.dirty(); from != 7 || whole {
		t.Errorf("dirty %d, %v", from, whole)
	}
	if es := b.core.Log().Entries(0, 9); len(es) != 3 || string(es[2].Data) != "other" {
		t.Errorf("%v", es)
	}
	// A change that is cut away doesn't hold any more.
	b.answers(t, appended(5, 2, 0, noop(6, 6)), true, 6)
	if c, at := b.core.Log().Conf(); at != 4 || len(c.Voters) != 3 {
		t.Errorf("%v, %d", c, at)
	}
	b.answers(t, appended(6, 6, 0, noop(7, 6), change(8, 7, voters(2))), true, 8)
	b.answers(t, appended(8, 7, 0, noop(9, 8)), true, 9)
	if from, _ := b.dirty(); from != 6 {
		t.Errorf("dirty %d", from)
	}
	if from, _ := b.dirty(); from != 0 {
		t.Errorf("dirty twice: %d", from)
	}
	b.answers(t, appended(9, 8, 0, noop(10, 9)), true, 10)
	b.answers(t, appended(7, 6, 0, noop(8, 8)), true, 8)
	if from, _ := b.dirty(); from != 8 {
		t.Errorf("dirty %d", from)
	}
}

// P18.1: what is dropped counts as there, whatever its term is said to be.
func TestAppendBelowTheBase(t *testing.T) {
	b := newBoth(t, rich())
	b.answers(t, appended(0, 0, 0), true, 0)
	b.answers(t, appended(3, 7, 100), true, 3)
	b.answers(t, appended(1, 0, 100, noop(2, 9), noop(3, 9)), true, 3)
	b.answers(t, appended(2, 1, 100, noop(3, 1), noop(4, 1)), true, 4)
	b.answers(t, appended(3, 1, 100, noop(4, 1), noop(5, 2)), true, 5)
	if from, _ := b.dirty(); from != 0 || b.core.Commit() != 5 {
		t.Errorf("dirty %d, commit %d", from, b.core.Commit())
	}
	b.answers(t, appended(3, 1, 100, noop(4, 1), noop(5, 2), noop(6, 4)), true, 6)
	if from, _ := b.dirty(); from != 6 || b.core.Commit() != 6 {
		t.Errorf("dirty %d, commit %d", from, b.core.Commit())
	}
}

// P18.1, P18.2: what can't be is not answered at all, and nothing of it comes.
func TestAppendOfWhatCantBe(t *testing.T) {
	broken := api.Entry{Index: 8, Term: 6, Kind: api.Change, Data: []byte("no configuration")}
	early := api.Entry{Index: 4, Term: 1, Kind: api.Change}
	for i, m := range []api.Msg{
		// against what is committed (up to 6)
		appended(4, 2, 9, noop(5, 3)), appended(5, 2, 9, noop(6, 4)), appended(4, 2, 9, noop(5, 2), noop(6, 2), noop(7, 9)), appended(3, 9, 9, noop(4, 9), noop(5, 9)), appended(4, 2, 9, noop(5, 9), noop(6, 9)),
		// no configuration, be it there or not
		appended(6, 3, 9, submit(7, 3, ""), broken), appended(6, 3, 9, submit(7, 6, ""), broken), appended(6, 3, 9, submit(7, 6, ""), broken, noop(9, 6)),
		appended(6, 3, 9, api.Entry{Index: 7, Term: 3, Kind: api.Change}), appended(5, 2, 9, api.Entry{Index: 6, Term: 3, Kind: api.Change, Data: []byte{2, 16, 0}}),
		// a term that falls behind the base's
		appended(3, 0, 9, early, noop(5, 1)), appended(2, 0, 9, noop(3, 0), noop(4, 0), noop(5, 0), noop(6, 3)),
	} {
		b := newBoth(t, rich())
		b.step(appended(6, 3, 6))
		b.out()
		b.tick(3)
		b.step(m)
		b.none("what can't be")
		if from, _ := b.dirty(); from != 0 || b.core.Commit() != 6 || b.core.Lead() != 1 {
			t.Errorf("%d: dirty %d, commit %d, lead %d", i, from, b.core.Commit(), b.core.Lead())
		}
	}
	// What is dropped isn't looked at: a change that is none may be among it.
	b := newBoth(t, rich())
	b.answers(t, appended(3, 0, 9, early, noop(5, 2)), true, 5)
	// Not yet committed, a term below the base's: nothing, and what is there stays.
	x := rich()
	x.es = nil
	b = newBoth(t, x)
	b.step(appended(3, 0, 9, noop(4, 1), noop(5, 1)))
	b.none("a term that falls")
	if last, _ := b.core.Log().Last(); last != 4 {
		t.Errorf("last %d", last)
	}
}

// P18.1: entries up to the greatest index.
func TestAppendAtTheTop(t *testing.T) {
	b := newBoth(t, start{n: 2, term: 9, base: top - 2, baseTerm: 1, conf: voters(1, 2)})
	b.answers(t, appended(top-2, 1, top, noop(top-1, 2), noop(top, 9)), true, top)
	if b.core.Commit() != top {
		t.Errorf("commit %d", b.core.Commit())
	}
	b.answers(t, appended(top, 9, top), true, top)
	b.answers(t, appended(top, 8, top), false, top-1)
}

func piece(index, logTerm, off int64, last bool, data string) api.Msg {
	return api.Msg{Kind: api.Piece, From: 1, To: 2, Term: 9, Index: index, LogTerm: logTerm, Off: off, Last: last, Data: []byte(data), Conf: api.Conf{Voters: []int{1, 2}, Learners: []int{5}}}
}

// takes asks for Took, and its Off and Last.
func (b *both) takes(t *testing.T, m api.Msg, off int64, last bool) {
	t.Helper()
	b.step(m)
	if got := b.one(); got.Kind != api.Took || got.Index != m.Index || got.Off != off || got.Last != last || got.Term != b.core.Term() || got.To != m.From {
		t.Errorf("%v: %v", m, got)
	}
	if b.core.Role() != raft.Follower || b.core.Lead() != m.From {
		t.Errorf("%v: role %d, lead %d", m, b.core.Role(), b.core.Lead())
	}
}

// P18.1: pieces come one behind the other, and are the snapshot as a whole.
func TestPieces(t *testing.T) {
	b := newBoth(t, rich())
	b.takes(t, piece(20, 7, 0, false, "abc"), 3, false)
	b.takes(t, piece(20, 7, 3, false, ""), 3, false)
	b.takes(t, piece(20, 7, 3, false, "de"), 5, false)
	if !sameSnap(b.core.Snap(), rich().snap) || b.core.Commit() != 4 {
		t.Error("it isn't whole yet")
	}
	if _, whole := b.dirty(); whole {
		t.Error("Dirty: it isn't whole yet")
	}
	b.takes(t, piece(20, 7, 5, true, "f"), 6, true)
	want := snap.Snap{Index: 20, Term: 7, Conf: api.Conf{Voters: []int{1, 2}, Learners: []int{5}}, Data: []byte("abcdef")}
	if !sameSnap(b.core.Snap(), want) || b.core.Commit() != 20 {
		t.Errorf("%v", b.core.Snap())
	}
	l := b.core.Log()
	if i, term := l.Base(); i != 20 || term != 7 || len(l.Entries(0, 9)) != 0 {
		t.Errorf("base %d, %d", i, term)
	}
	if c, at := l.Conf(); at != 20 || !sameConf(c, want.Conf) {
		t.Errorf("%v, %d", c, at)
	}
	if from, whole := b.dirty(); from != 0 || !whole {
		t.Errorf("dirty %d, %v", from, whole)
	}
	if _, whole := b.dirty(); whole {
		t.Error("dirty twice")
	}
	// The same once more, and the log goes on behind it.
	b.takes(t, piece(20, 7, 5, true, "f"), 5, true)
	b.takes(t, piece(19, 7, 0, false, "f"), 0, true)
	b.takes(t, piece(3, 1, 7, false, "f"), 7, true)
	b.answers(t, appended(20, 7, 0, noop(21, 8)), true, 21)
	// None have come of another one.
	b.takes(t, piece(30, 7, 6, true, "f"), 0, false)
}

// P18.1: of a snapshot whose index the log has with its term the entries behind stay, and the log's own configuration.
func TestPieceOfWhatIsThere(t *testing.T) {
	b := newBoth(t, rich())
	b.answers(t, appended(8, 5, 5, noop(9, 8)), true, 9)
	if from, _ := b.dirty(); from != 9 {
		t.Errorf("dirty %d", from)
	}
	b.takes(t, piece(7, 3, 0, true, ""), 0, true)
	l := b.core.Log()
	if i, term := l.Base(); i != 7 || term != 3 || len(l.Entries(0, 9)) != 2 || b.core.Commit() != 7 {
		t.Errorf("base %d, %d", i, term)
	}
	if c, _ := l.Conf(); !sameConf(c, voters(1, 2, 3, 4)) || b.core.Snap().Index != 7 || len(b.core.Snap().Conf.Learners) != 1 {
		t.Errorf("%v, %v", c, b.core.Snap())
	}
	if from, whole := b.dirty(); from != 0 || !whole {
		t.Errorf("dirty %d, %v", from, whole)
	}
	// With another term there all entries go, those behind too.
	b.takes(t, piece(8, 6, 0, true, "x"), 1, true)
	if i, term := b.core.Log().Base(); i != 8 || term != 6 || len(b.core.Log().Entries(0, 9)) != 0 {
		t.Errorf("base %d, %d", i, term)
	}
	if from, whole := b.dirty(); from != 0 || !whole {
		t.Errorf("dirty %d, %v", from, whole)
	}
}

// P18.1: entries that came stay told though a snapshot comes over them.
func TestDirtyAndPiece(t *testing.T) {
	b := newBoth(t, rich())
	b.answers(t, appended(8, 5, 0, noop(9, 8)), true, 9)
	b.takes(t, piece(20, 9, 0, true, "x"), 1, true)
	if from, whole := b.dirty(); from != 9 || !whole {
		t.Errorf("dirty %d, %v", from, whole)
	}
	b.answers(t, appended(20, 9, 0, noop(21, 9)), true, 21)
	if from, whole := b.dirty(); from != 21 || whole {
		t.Errorf("dirty %d, %v", from, whole)
	}
}

// P18.1: pieces that don't follow are told how many have come; an Off of 0 begins anew.
func TestPiecesThatDontFollow(t *testing.T) {
	b := newBoth(t, rich())
	b.takes(t, piece(20, 7, 3, false, "abc"), 0, false)
	b.takes(t, piece(20, 7, 3, true, ""), 0, false)
	b.takes(t, piece(20, 7, 0, false, "abcd"), 4, false)
	b.takes(t, piece(20, 7, 3, false, "x"), 4, false)
	b.takes(t, piece(20, 7, 5, true, "x"), 4, false)
	b.takes(t, piece(20, 7, 32768, true, "x"), 4, false)
	// Of another index, or another term, none have come; those that have stay.
	b.takes(t, piece(21, 7, 4, true, "x"), 0, false)
	b.takes(t, piece(20, 6, 4, true, "x"), 0, false)
	b.takes(t, piece(20, 8, 4, true, "x"), 0, false)
	b.takes(t, piece(20, 7, 4, false, "ef"), 6, false)
	// Begun anew, of this one and of another one.
	b.takes(t, piece(20, 7, 0, false, "AB"), 2, false)
	b.takes(t, piece(20, 7, 6, true, "x"), 2, false)
	b.takes(t, piece(22, 7, 0, false, ""), 0, false)
	b.takes(t, piece(20, 7, 2, true, "x"), 0, false)
	b.takes(t, piece(22, 7, 0, false, "q"), 1, false)
	m := piece(22, 7, 1, true, "r")
	m.Conf = voters(7)
	b.takes(t, m, 2, true)
	// The configuration is the one that its first piece had.
	if s := b.core.Snap(); string(s.Data) != "qr" || s.Index != 22 || !sameConf(s.Conf, piece(1, 1, 0, false, "").Conf) {
		t.Errorf("%v", s)
	}
}

// P18.1: pieces stay while leaders, terms and entries come and go.
func TestPiecesStay(t *testing.T) {
	b := newBoth(t, rich())
	b.takes(t, piece(20, 7, 0, false, "abc"), 3, false)
	b.answers(t, appended(8, 5, 0, noop(9, 8)), true, 9)
	b.step(api.Msg{Kind: api.Ask, From: 3, To: 2, Term: 12, Index: 9, LogTerm: 9})
	b.tick(20)
	b.out()
	if b.core.Role() != raft.Asker {
		t.Fatal("it doesn't ask")
	}
	m := piece(20, 7, 3, true, "d")
	m.From, m.Term = 3, 13
	b.takes(t, m, 4, true)
	if string(b.core.Snap().Data) != "abcd" {
		t.Errorf("%v", b.core.Snap())
	}
	// Those of what has been committed meanwhile are there.
	b.takes(t, api.Msg{Kind: api.Piece, From: 3, To: 2, Term: 13, Index: 22, LogTerm: 9, Data: []byte("ab"), Conf: voters(1)}, 2, false)
	b.answers(t, api.Msg{Kind: api.Append, From: 3, To: 2, Term: 13, Index: 20, LogTerm: 7, Commit: 22, Entries: []api.Entry{noop(21, 9), noop(22, 9)}}, true, 22)
	b.takes(t, api.Msg{Kind: api.Piece, From: 3, To: 2, Term: 13, Index: 22, LogTerm: 9, Off: 2, Conf: voters(1), Last: true}, 2, true)
	if b.core.Snap().Index != 20 {
		t.Errorf("%v", b.core.Snap())
	}
}

// P18.1: a snapshot has at most 32768 bytes.
func TestPiecesAtMost(t *testing.T) {
	b := newBoth(t, rich())
	full := strings.Repeat("x", 64)
	for off := int64(0); off < 32768; off += 64 {
		b.takes(t, piece(20, 7, off, false, full), off+64, false)
	}
	b.takes(t, piece(20, 7, 32768, true, "x"), 32768, false)
	b.takes(t, piece(20, 7, 32768, false, full), 32768, false)
	b.takes(t, piece(20, 7, 32768, false, ""), 32768, false)
	b.takes(t, piece(20, 7, 32768, true, ""), 32768, true)
	if d := b.core.Snap().Data; !bytes.Equal(d, bytes.Repeat([]byte("x"), 32768)) {
		t.Errorf("%d bytes", len(d))
	}
	b.takes(t, piece(21, 7, 0, false, "y"), 1, false)
	for off := int64(1); off+64 <= 32768; off += 64 {
		b.takes(t, piece(21, 7, off, false, full), off+64, false)
	}
	b.takes(t, piece(21, 7, 32705, false, full), 32705, false)
	b.takes(t, piece(21, 7, 32705, true, full[1:]), 32768, true)
}

// P18.1: behind a snapshot whose term is above its own no entry of a lesser one may come: it leads without a Noop, and proposes nothing.
func TestSnapshotOfAGreaterTerm(t *testing.T) {
	b := newBoth(t, start{n: 2, term: 9, conf: voters(1, 2)})
	b.takes(t, piece(20, 50, 0, true, "x"), 1, true)
	b.step(appended(19, 0, 0, noop(20, 9), noop(21, 9)))
	b.none("a term that falls")
	b.elect(1)
	if last, _ := b.core.Log().Last(); last != 20 || b.core.Term() != 10 {
		t.Errorf("last %d, term %d", last, b.core.Term())
	}
	if out := b.out(); len(out) != 2 || out[0].Kind != api.Piece || out[1].To != 5 {
		t.Errorf("%v", out)
	}
	if i, code := b.propose([]byte("x")); i != 0 || code != api.ErrOrder {
		t.Errorf("Propose = %d, %d", i, code)
	}
	if _, code := b.change(1, 6); code != api.ErrBusy {
		t.Errorf("Change = %d", code)
	}
	b.none("nothing came")
	if from, _ := b.dirty(); from != 0 {
		t.Errorf("dirty %d", from)
	}
	b.got(1, 20)
	b.none("nothing to come")
	b.tick(2)
	if out := b.out(); len(out) != 2 || out[0].Kind != api.Append || out[0].LogTerm != 50 || slices.ContainsFunc(out, func(m api.Msg) bool { return len(m.Entries) > 0 }) {
		t.Errorf("%v", out)
	}
}
