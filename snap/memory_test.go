package snap_test

import (
	"bytes"
	"slices"
	"testing"

	"quillet/api"
	"quillet/snap"
)

// spoil writes over a snapshot's lists, their spare room too.
func spoil(s snap.Snap) {
	for _, members := range [][]int{s.Conf.Voters, s.Conf.Learners} {
		members = members[:cap(members)]
		for i := range members {
			members[i] = 99
		}
	}
	spoilBytes(s.Data)
}

func spoilBytes(b []byte) {
	b = b[:cap(b)]
	for i := range b {
		b[i] = 0xEE
	}
}

// roomy is a snapshot whose lists have room behind them, with what stands there.
func roomy(s snap.Snap) (snap.Snap, func() bool) {
	members := []int{1, 3, 5, 2, 4, 6}
	data := append(slices.Clone(s.Data), 7, 7, 7)
	was, had := slices.Clone(members), slices.Clone(data)
	s.Conf = api.Conf{Voters: members[:2], Learners: members[3:4]}
	s.Data = data[:len(s.Data)]
	return s, func() bool { return slices.Equal(members, was) && bytes.Equal(data, had) }
}

// P8.4: arguments stay as they are, and aren't kept.
func TestArgumentsStay(t *testing.T) {
	for _, size := range []int{0, 1, 40, 2048, 2049, 5000} {
		want := of(5, size)
		s, stays := roomy(want)
		b, e := snap.Bytes(s)
		if e != api.OK || !stays() {
			t.Fatalf("Bytes of %d = %d, or its argument is changed", size, e)
		}
		spoil(s)
		if !bytes.Equal(b, fileOf(want)) {
			t.Errorf("%d: the bytes share with the snapshot", size)
		}

		s, stays = roomy(want)
		x := opened(t)
		if e := x.st.Put(s); e != api.OK || !stays() {
			t.Fatalf("Put of %d = %d, or its argument is changed", size, e)
		}
		spoil(s)
		if last, ok := x.st.Last(); !ok || !same(last, want) {
			t.Errorf("%d: the Store shares with the snapshot: %s", size, tell(last))
		}
		if b, _ := x.d.Read(nameFor(5)); !bytes.Equal(b, fileOf(want)) {
			t.Errorf("%d: the disk shares with the snapshot", size)
		}

		file := append(fileOf(want), 5, 5, 5)
		had := slices.Clone(file)
		got, e := snap.Read(file[:len(file)-3])
		if e != api.OK || !bytes.Equal(file, had) {
			t.Fatalf("Read of %d = %d, or its argument is changed", size, e)
		}
		spoilBytes(file)
		if !same(got, want) {
			t.Errorf("%d: the snapshot shares with the bytes: %s", size, tell(got))
		}
	}
}

// P8.4: with an error, too.
func TestRefusedArgumentsStay(t *testing.T) {
	s, stays := roomy(of(5, 40))
	x := opened(t, put(of(9, 3)))
	if e := x.st.Put(s); e != api.ErrOld || !stays() {
		t.Errorf("Put = %d, or its argument is changed", e)
	}
	x.fail(4)
	s.Index = 10
	if e := x.st.Put(s); e != api.ErrDown || !stays() {
		t.Errorf("Put = %d, or its argument is changed", e)
	}
	s.Term = -1
	if _, e := snap.Bytes(s); e != api.ErrArg || !stays() || x.st.Put(s) != api.ErrArg || !stays() {
		t.Errorf("Bytes = %d, or its argument is changed", e)
	}
	spoil(s)
	if last, ok := x.st.Last(); !ok || !same(last, of(9, 3)) {
		t.Errorf("Last = %s, %v", tell(last), ok)
	}
	file := fileOf(of(5, 40))
	file[len(file)-1] ^= 1
	had := slices.Clone(file)
	if _, e := snap.Read(file); e != api.ErrForm || !bytes.Equal(file, had) {
		t.Errorf("Read = %d, or its argument is changed", e)
	}
}

// P8.4: whatever is answered may be written over, spare room too: no other answer, no Store and no disk changes.
func TestAnswersAreNew(t *testing.T) {
	for _, size := range []int{0, 1, 40, 2048, 2049, 5000} {
		want := of(5, size)
		b, _ := snap.Bytes(want)
		spoilBytes(b)
		if !same(want, of(5, size)) {
			t.Fatalf("%d: the bytes share with the snapshot", size)
		}
		file := fileOf(want)
		s, _ := snap.Read(file)
		spoil(s)
		if !bytes.Equal(file, fileOf(want)) {
			t.Fatalf("%d: the snapshot shares with the bytes", size)
		}
		for _, again := range []bool{false, true} {
			x := opened(t, put(want))
			if again {
				x.ok(t, open())
			}
			first, _ := x.st.Last()
			second, _ := x.st.Last()
			spoil(first)
			if !same(second, want) {
				t.Errorf("%d: two answers share", size)
			}
			if last, ok := x.st.Last(); !ok || !same(last, want) {
				t.Errorf("%d: the Store shares with its answer", size)
			}
			if b, _ := x.d.Read(nameFor(5)); !bytes.Equal(b, fileOf(want)) {
				t.Errorf("%d: the disk shares with an answer", size)
			}
			x.ok(t, put(of(6, 3)))
			if !same(second, want) {
				t.Errorf("%d: a Put changes what was answered", size)
			}
		}
	}
	x := opened(t)
	none, _ := x.st.Last()
	spoil(none)
	if last, ok := x.st.Last(); ok || !empty(last) {
		t.Errorf("Last = %s, %v", tell(last), ok)
	}
}

// P8.4: the lists of one answer share nothing with each other.
func TestListsAreApart(t *testing.T) {
	want := of(5, 40)
	x := opened(t, put(want))
	answers := map[string]func() snap.Snap{
		"Read":              func() snap.Snap { s, _ := snap.Read(fileOf(want)); return s },
		"Last":              func() snap.Snap { s, _ := x.st.Last(); return s },
		"Last of an opened": func() snap.Snap { st, _ := snap.Open(x.d); s, _ := st.Last(); return s },
	}
	for what, f := range answers {
		s := f()
		spoil(snap.Snap{Conf: api.Conf{Voters: s.Conf.Voters}})
		if !slices.Equal(s.Conf.Learners, want.Conf.Learners) || !bytes.Equal(s.Data, want.Data) {
			t.Errorf("%s: Voters share", what)
		}
		s = f()
		spoil(snap.Snap{Conf: api.Conf{Learners: s.Conf.Learners}})
		if !slices.Equal(s.Conf.Voters, want.Conf.Voters) || !bytes.Equal(s.Data, want.Data) {
			t.Errorf("%s: Learners share", what)
		}
		s = f()
		spoil(snap.Snap{Data: s.Data})
		if !slices.Equal(s.Conf.Voters, want.Conf.Voters) || !slices.Equal(s.Conf.Learners, want.Conf.Learners) {
			t.Errorf("%s: Data share", what)
		}
	}
}
