package sess_test

import (
	"slices"
	"testing"

	"quillet/api"
	"quillet/sess"
)

// spoil writes over a list, its spare room too.
func spoil[T any](xs []T, x T) {
	xs = xs[:cap(xs)]
	for i := range xs {
		xs[i] = x
	}
}

// P13.4: what is answered may be written over: neither the Table nor another answer changes, whatever comes then.
func TestAnswersAreNew(t *testing.T) {
	b := newBoth()
	for _, seq := range []int64{3, 1, 5, 2, 4, 9, 20, 14, 15, 13, 16, 17, 19, 18, 21, 40} {
		for session := int64(1); session <= 4; session++ {
			b.put(t, session, seq, of(session, seq))
			ids, more := b.table.Sessions(), b.table.Sessions()
			kept, second := b.table.Kept(session), b.table.Kept(session)
			bytes, third := b.table.Bytes(), b.table.Bytes()
			spoil(ids, 77)
			spoil(kept, sess.Item{Seq: 77, Verdict: api.Verdict{Num: 77}})
			spoil(bytes, 77)
			if !slices.Equal(more, b.said.sessions()) || !slices.Equal(second, b.said.kept(session)) || !slices.Equal(third, b.said.image().bytes()) {
				t.Fatalf("%d, %d: two answers share", session, seq)
			}
			b.told(t, "answers are written over")
			b.around(t)
		}
	}
}

// P13.4: what was answered stays, whatever is put later.
func TestAnswersStay(t *testing.T) {
	for _, next := range []int64{2, 4, 6, 11, 12, 15, 100} {
		b := newBoth().puts(t, 1, 10, 3, 5, 7).puts(t, 2, 1)
		ids, kept, bytes := b.table.Sessions(), b.table.Kept(1), b.table.Bytes()
		wantIds, want, form := b.said.sessions(), b.said.kept(1), b.said.image().bytes()
		b.put(t, 1, next, api.Verdict{Num: 9})
		b.puts(t, 9, 1)
		b.put(t, 1, 8, api.Verdict{Num: 8})
		b.put(t, 1, 14, api.Verdict{Num: 14})
		if !slices.Equal(ids, wantIds) || !slices.Equal(kept, want) || !slices.Equal(bytes, form) {
			t.Errorf("%d changes what was answered", next)
		}
	}
}

// P13.4: bytes that are loaded are neither changed nor kept; two that are loaded of the same share nothing.
func TestLoadedBytesAreNotKept(t *testing.T) {
	m := rich()
	back := append(m.bytes(), 55, 56)
	b := back[:len(back)-2]
	x, e := sess.Load(b)
	y, _ := sess.Load(b)
	if e != api.OK || !slices.Equal(back, append(m.bytes(), 55, 56)) {
		t.Fatalf("Load = %d, and leaves %v", e, back)
	}
	spoil(back, 77)
	first, second := &both{x, saidLoad(m.bytes())}, &both{y, saidLoad(m.bytes())}
	first.told(t, "the bytes are written over")
	first.puts(t, 3, 15, 16, 22).puts(t, 70, 9).puts(t, 8, 1)
	second.told(t, "another one goes on")
	second.around(t)
}
