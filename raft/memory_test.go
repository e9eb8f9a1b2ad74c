package raft_test

import (
	"slices"
	"testing"

	"quillet/api"
	"quillet/conf"
	"quillet/raft"
	"quillet/rlog"
	"quillet/snap"
)

// spoil writes over a list, its spare room too.
func spoil[T any](xs []T, x T) {
	xs = xs[:cap(xs)]
	for i := range xs {
		xs[i] = x
	}
}

func spoilConf(c api.Conf) {
	spoil(c.Voters, 77)
	spoil(c.Learners, 78)
}

func spoilSnap(s snap.Snap) {
	spoilConf(s.Conf)
	spoil(s.Data, 79)
}

func spoilMsg(m api.Msg) {
	for _, e := range m.Entries {
		spoil(e.Data, 80)
	}
	spoil(m.Entries, api.Entry{Index: 77, Term: 77, Kind: 7, Data: []byte("spoilt")})
	spoil(m.Data, 81)
	spoilConf(m.Conf)
}

// roomy is the same list, of its own, with room behind that has something.
func roomy[T any](xs []T, x T) []T {
	out := append(make([]T, 0, len(xs)+3), xs...)
	spoil(out[len(out):], x)
	return out
}

// copied shares nothing with a message; its lists have room behind.
func copied(m api.Msg) api.Msg {
	m.Entries = roomy(m.Entries, api.Entry{Index: 50, Kind: 5})
	for i := range m.Entries {
		m.Entries[i].Data = roomy(m.Entries[i].Data, 51)
	}
	m.Data = roomy(m.Data, 52)
	m.Conf = api.Conf{Voters: roomy(m.Conf.Voters, 53), Learners: roomy(m.Conf.Learners, 54)}
	return m
}

// room is what is behind the lists of a message.
func room(m api.Msg) []int {
	var out []int
	for _, e := range m.Entries {
		for _, x := range e.Data[len(e.Data):cap(e.Data)] {
			out = append(out, int(x))
		}
	}
	for _, e := range m.Entries[len(m.Entries):cap(m.Entries)] {
		out = append(out, int(e.Index), e.Kind)
	}
	for _, x := range m.Data[len(m.Data):cap(m.Data)] {
		out = append(out, int(x))
	}
	out = append(out, m.Conf.Voters[len(m.Conf.Voters):cap(m.Conf.Voters)]...)
	return append(out, m.Conf.Learners[len(m.Conf.Learners):cap(m.Conf.Learners)]...)
}

// given steps a message that is a copy, asks that it stays, and then writes over it.
func (b *both) given(m api.Msg) {
	b.t.Helper()
	x := copied(m)
	behind := room(x)
	b.step(x)
	if !sameMsg(x, m) || !slices.Equal(room(x), behind) {
		b.t.Fatalf("of %v is left %v", m, x)
	}
	spoilMsg(x)
	b.told("what was given is written over")
}

// P18.4: messages are neither changed nor kept: entries, pieces, configurations.
func TestMessagesAreNotKept(t *testing.T) {
	b := newBoth(t, rich())
	b.given(appended(8, 5, 0, submit(9, 6, "nine"), change(10, 7, voters(1, 2, 3))))
	b.given(appended(8, 5, 0, submit(9, 6, "nine"), change(10, 8, voters(1, 2)), noop(11, 9)))
	b.given(appended(20, 9, 0, submit(21, 9, "x")))
	b.given(appended(3, 0, 9, submit(4, 1, "x"), submit(5, 1, "x")))
	b.given(piece(30, 8, 0, false, "abc"))
	b.given(piece(30, 8, 3, false, "defg"))
	b.given(piece(30, 8, 9, true, "x"))
	b.given(piece(30, 8, 7, true, "h"))
	if s := b.core.Snap(); string(s.Data) != "abcdefgh" || !sameConf(s.Conf, piece(1, 1, 0, false, "").Conf) {
		t.Errorf("%v", s)
	}
	b.given(appended(30, 8, 31, submit(31, 9, "more")))
	b.given(piece(31, 9, 0, true, "gone"))
	b.given(api.Msg{Kind: api.Ask, From: 9, To: 2, Data: []byte("wrong"), Entries: []api.Entry{submit(1, 1, "wrong")}, Conf: voters(1)})
	b.out()
	b.dirty()
}

// P18.4: what a wish has, and what New has but the log, is neither changed nor kept.
func TestWishesAreNotKept(t *testing.T) {
	b := leads(t)
	kept := func(want string, call func(data []byte)) {
		t.Helper()
		data := roomy([]byte(want), 50)
		call(data)
		if string(data) != want || string(data[:cap(data)][len(data):]) != "222" {
			t.Errorf("of %s is left %v", want, data[:cap(data)])
		}
		spoil(data, 77)
		b.told("what was given is written over")
	}
	kept("proposed", func(data []byte) { b.propose(data) })
	b.got(2, 2)
	kept("snapshot", func(data []byte) { b.compact(2, data) })
	kept("none", func(data []byte) { b.compact(2, data) })
	b.step(api.Msg{Kind: api.Say, From: 2, To: 1, Term: 9})
	kept("no leader", func(data []byte) { b.propose(data) })
	b.out()

	s := snap.Snap{Index: 4, Term: 2, Conf: api.Conf{Voters: roomy([]int{1, 2}, 50), Learners: roomy([]int{3}, 51)}, Data: roomy([]byte("four"), 52)}
	want := copiedSnap(s)
	c := raft.New(1, 2, 0, rlog.New(4, 2, voters(1)), s)
	if !sameSnap(s, want) || s.Data[:7][6] != 52 || s.Conf.Voters[:5][4] != 50 || s.Conf.Learners[:4][3] != 51 {
		t.Errorf("of %v is left %v", want, s)
	}
	spoilSnap(s)
	if !sameSnap(c.Snap(), want) {
		t.Errorf("kept is %v", c.Snap())
	}
}

// P18.4: what is sent is new memory: writing over it, while others of it wait, changes neither the member nor what it sends later, nor another message.
func TestSentIsNew(t *testing.T) {
	b, _ := longSnap(t, 300)
	b.change(conf.Learn, 5)
	b.propose([]byte("more"))
	b.lacks(3, 0)
	b.lacks(3, 0)
	b.step(api.Msg{Kind: api.Took, From: 3, To: 1, Term: 1, Index: 3, Off: 64}, api.Msg{Kind: api.Took, From: 3, To: 1, Term: 1, Index: 3, Off: 64})
	b.lacks(2, 3)
	b.lacks(2, 3)
	want := b.said.out
	out := b.core.Out()
	b.said.out = nil
	kinds := map[int]int{}
	for i, m := range out {
		kinds[m.Kind]++
		spoilMsg(m)
		for k := i + 1; k < len(out); k++ {
			if !sameMsg(out[k], want[k]) {
				t.Fatalf("%d and %d share", i, k)
			}
		}
	}
	if kinds[api.Append] < 4 || kinds[api.Piece] < 4 {
		t.Errorf("%v", kinds)
	}
	spoil(out, api.Msg{Kind: 77})
	b.told("what was sent is written over")
	b.lacks(3, 0)
	b.lacks(2, 3)
	b.tick(2)
	b.out()
	// What is sent later doesn't change what was taken.
	b.tick(2)
	first := b.out()
	was := make([]api.Msg, len(first))
	for i, m := range first {
		was[i] = copied(m)
	}
	b.propose([]byte("again"))
	b.tick(2)
	b.out()
	b.step(api.Msg{Kind: api.Append, From: 2, To: 1, Term: 4, Index: 3, LogTerm: 1, Entries: []api.Entry{submit(4, 4, "other")}})
	if !slices.EqualFunc(first, was, sameMsg) {
		t.Errorf("%v was %v", first, was)
	}
}

// P18.4: no two lists of one message share anything.
func TestListsOfOneMessage(t *testing.T) {
	b, _ := longSnap(t, 30)
	b.change(conf.Learn, 5)
	b.got(2, 5)
	b.compact(5, []byte("of five"))
	b.propose([]byte("six"))
	b.propose([]byte("seven"))
	b.out()
	b.tick(2)
	want := b.said.out
	out := b.core.Out()
	b.said.out = nil
	for i, m := range out {
		for k := range m.Entries {
			spoil(m.Entries[k].Data, 77)
			for j := k + 1; j < len(m.Entries); j++ {
				if !sameEntry(m.Entries[j], want[i].Entries[j]) {
					t.Fatalf("%d: entries %d and %d share", i, k, j)
				}
			}
		}
		spoil(m.Conf.Voters, 77)
		if !slices.Equal(m.Conf.Learners, want[i].Conf.Learners) || string(m.Data) != string(want[i].Data) {
			t.Fatalf("%d: lists share", i)
		}
	}
	if !slices.ContainsFunc(out, func(m api.Msg) bool { return len(m.Entries) > 1 }) || !slices.ContainsFunc(out, func(m api.Msg) bool { return m.Kind == api.Piece && len(m.Conf.Learners) > 0 }) {
		t.Errorf("%v", out)
	}
}

// P18.4: a snapshot that is told is new memory, however it came.
func TestSnapIsNew(t *testing.T) {
	asks := func(b *both) {
		t.Helper()
		one, two := b.core.Snap(), b.core.Snap()
		spoilSnap(one)
		if !sameSnap(two, b.said.snap) {
			t.Fatalf("two answers share: %v", two)
		}
		spoil(two.Conf.Voters, 77)
		if !slices.Equal(two.Conf.Learners, b.said.snap.Conf.Learners) {
			t.Fatal("two lists of one answer share")
		}
		b.told("a snapshot is written over")
		if c := b.core.Log().ConfAt(0); !sameConf(c, b.said.baseConf) {
			t.Fatalf("the log shares with the snapshot: %v", c)
		}
	}
	b := newBoth(t, rich())
	asks(b)
	b.step(piece(20, 7, 0, true, "came"))
	asks(b)
	b.step(appended(20, 7, 22, change(21, 8, api.Conf{Voters: []int{1, 2}, Learners: []int{6}}), noop(22, 8)))
	b.compact(21, []byte("made"))
	asks(b)
	old := b.core.Snap()
	b.step(piece(30, 7, 0, true, "came again"))
	if string(old.Data) != "made" || len(old.Conf.Learners) != 1 {
		t.Errorf("what was told has changed: %v", old)
	}
	b.out()
}

// P18.4: two Cores share nothing, though they were given the same.
func TestTwoCores(t *testing.T) {
	one, two := newBoth(t, rich()), newBoth(t, rich())
	m := piece(20, 7, 0, false, "abc")
	for _, b := range []*both{one, two} {
		b.step(m)
	}
	one.step(piece(20, 7, 3, true, "d"))
	two.step(piece(20, 7, 3, false, "xy"), piece(20, 7, 5, true, "z"))
	if string(one.core.Snap().Data) != "abcd" || string(two.core.Snap().Data) != "abcxyz" {
		t.Errorf("%v, %v", one.core.Snap(), two.core.Snap())
	}
}
