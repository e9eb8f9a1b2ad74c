package msg_test

import (
	"bytes"
	"slices"
	"testing"

	"quillet/api"
	"quillet/msg"
)

// spoil writes over a list, its spare room too.
func spoil[T any](xs []T, x T) {
	xs = xs[:cap(xs)]
	for i := range xs {
		xs[i] = x
	}
}

// spoilMsg writes over all lists of a message.
func spoilMsg(m api.Msg) {
	for _, e := range m.Entries {
		spoil(e.Data, 77)
	}
	spoil(m.Entries, api.Entry{Index: 77, Term: 77, Kind: 7})
	spoil(m.Data, 78)
	spoil(m.Conf.Voters, 79)
	spoil(m.Conf.Learners, 80)
}

// copied shares nothing with a message; its lists have room behind.
func copied(m api.Msg) api.Msg {
	m.Entries = roomy(m.Entries, api.Entry{Index: 50, Kind: 5})
	for i := range m.Entries {
		m.Entries[i].Data = roomy(m.Entries[i].Data, 51)
	}
	m.Data = roomy(m.Data, 52)
	m.Conf = api.Conf{Voters: roomy(m.Conf.Voters, 53), Learners: roomy(m.Conf.Learners, 54)}
	return m
}

func roomy[T any](xs []T, x T) []T {
	out := append(make([]T, 0, len(xs)+3), xs...)
	spoil(out[len(out):], x)
	return out
}

// room is what is behind the lists of a message.
func room(m api.Msg) []byte {
	var out []byte
	for _, e := range m.Entries {
		out = append(out, e.Data[len(e.Data):cap(e.Data)]...)
	}
	for _, e := range m.Entries[len(m.Entries):cap(m.Entries)] {
		out = append(out, byte(e.Index), byte(e.Kind))
	}
	out = append(out, m.Data[len(m.Data):cap(m.Data)]...)
	for _, list := range [][]int{m.Conf.Voters, m.Conf.Learners} {
		for _, n := range list[len(list):cap(list)] {
			out = append(out, byte(n))
		}
	}
	return out
}

// P17.4: no call changes what it is handed, nor what is behind it; right or not.
func TestArgumentsStay(t *testing.T) {
	for _, good := range samples() {
		for i, change := range turns() {
			if i%5 > 0 {
				continue
			}
			m := good
			change(&m)
			a, b := copied(m), copied(good)
			before, beforeGood := room(a), room(b)
			msg.Right(a)
			msg.Encode(a)
			msg.Same(a, b)
			msg.Same(b, a)
			if !equal(a, m) || !equal(b, good) || !bytes.Equal(room(a), before) || !bytes.Equal(room(b), beforeGood) {
				t.Fatalf("of %v is left %v", m, a)
			}
		}
	}
}

// P17.4: what is encoded shares nothing with the message, nor with what is encoded again.
func TestEncodedIsNew(t *testing.T) {
	for _, m := range samples() {
		given := copied(m)
		first, _ := msg.Encode(given)
		second, _ := msg.Encode(given)
		spoil(first, 90)
		if !equal(given, m) {
			t.Fatalf("of %v is left %v", m, given)
		}
		spoilMsg(given)
		if !bytes.Equal(second, frame(form(m))) {
			t.Fatalf("%v: the bytes share", m)
		}
	}
}

// P17.4: what is decoded shares nothing with the bytes, nor with what is decoded again.
func TestDecodedIsNew(t *testing.T) {
	for _, m := range samples() {
		b := frame(form(m))
		back := append(slices.Clone(b), 91, 92)
		given := back[:len(b)]
		first, _ := msg.Decode(given)
		second, _ := msg.Decode(given)
		if !bytes.Equal(back, append(slices.Clone(b), 91, 92)) {
			t.Fatalf("of %v is left %v", b, back)
		}
		spoilMsg(first)
		if !bytes.Equal(back, append(slices.Clone(b), 91, 92)) {
			t.Fatalf("%v: the message shares with the bytes", m)
		}
		spoil(back, 93)
		if !equal(second, m) {
			t.Fatalf("%v: the message shares", m)
		}
	}
}

// P17.4: no two lists of one message share anything.
func TestListsOfOneAnswer(t *testing.T) {
	for _, m := range samples() {
		got, _ := msg.Decode(frame(form(m)))
		for i := range got.Entries {
			spoil(got.Entries[i].Data, 77)
			for k := i + 1; k < len(got.Entries); k++ {
				if !sameEntry(got.Entries[k], m.Entries[k]) {
					t.Fatalf("%v: %d and %d share", m, i, k)
				}
			}
		}
		spoil(got.Data, 78)
		spoil(got.Conf.Voters, 79)
		if !slices.Equal(got.Conf.Learners, m.Conf.Learners) {
			t.Fatalf("%v: the lists of Conf share", m)
		}
	}
}
