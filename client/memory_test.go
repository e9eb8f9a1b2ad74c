package client_test

import (
	"bytes"
	"math"
	"slices"
	"testing"

	"quillet/api"
	"quillet/client"
)

// spoil writes over a list, its spare room too.
func spoil[T any](xs []T, x T) {
	xs = xs[:cap(xs)]
	for i := range xs {
		xs[i] = x
	}
}

// P21.3: the members that are handed in are neither changed nor kept, nor their spare room.
func TestMembersAreNotKept(t *testing.T) {
	for _, in := range [][]int{{3, 1, 9, 3, 5}, {1, 3, 5}, {5, 3, 1}} {
		room := append(slices.Clone(in), 7, 0, 2)
		was := slices.Clone(room)
		b := &both{t, client.New(1, room[:len(in)]), saidNew(1, []int{1, 3, 5})}
		other := &both{t, client.New(2, room[:len(in)]), saidNew(2, []int{1, 3, 5})}
		b.adds(1)
		if !slices.Equal(room, was) {
			t.Errorf("of %v is left %v", was, room)
		}
		spoil(room, 2)
		for range 4 {
			b.heard(1, api.Verdict{}, api.ErrDown, 0)
		}
		b.heard(1, api.Verdict{}, api.ErrLead, 2)
		b.heard(1, api.Verdict{}, api.ErrLead, 5)
		other.told("another Client's calls")
	}
}

// roomy is a wish whose lists have something behind their ends, and those with it.
func roomy(w wish) (wish, api.Sub) {
	all := w.in
	all.Reads = append(slices.Clone(w.in.Reads), 77, 76)
	all.Spans = append(slices.Clone(w.in.Spans), api.Span{Lo: 77, Hi: 78}, api.Span{Lo: 70, Hi: 71})
	all.Writes = append(slices.Clone(w.in.Writes), 79, 74)
	w.in.Reads, w.in.Spans, w.in.Writes = all.Reads[:len(w.in.Reads)], all.Spans[:len(w.in.Spans)], all.Writes[:len(w.in.Writes)]
	return w, all
}

func alike(a, b float64) bool { return math.Float64bits(a) == math.Float64bits(b) }

func spansAlike(a, b api.Span) bool {
	return alike(a.Lo, b.Lo) && alike(a.Hi, b.Hi) && a.LoOpen == b.LoOpen && a.HiOpen == b.HiOpen
}

// P21.3: a submission that is handed in is neither changed nor kept, whether it is opened or not.
func TestSubmissionsAreNotKept(t *testing.T) {
	for _, w := range append(goodWishes(), badWishes()...) {
		b := newBoth(t, 1, 1, 2)
		w, all := roomy(w)
		reads, spans, writes := slices.Clone(all.Reads), slices.Clone(all.Spans), slices.Clone(all.Writes)
		b.add(w)
		if !slices.EqualFunc(all.Reads, reads, alike) || !slices.EqualFunc(all.Spans, spans, spansAlike) || !slices.EqualFunc(all.Writes, writes, alike) {
			t.Errorf("%s: left is %v", w.name, all)
		}
		spoil(all.Reads, 55)
		spoil(all.Spans, api.Span{Lo: 55, Hi: 56})
		spoil(all.Writes, 55)
		b.told("the submission is written over")
	}
}

// P21.3: one submission's memory, handed in again and again with other keys, makes as many unlike ones.
func TestSameMemoryAgain(t *testing.T) {
	b := newBoth(t, 1, 1)
	key := []float64{0}
	for i := range 8 {
		key[0] = float64(i)
		b.add(wish{in: api.Sub{Reads: key, Writes: key}, want: api.Sub{Reads: []float64{float64(i)}, Writes: []float64{float64(i)}}})
	}
	for seq := range int64(8) {
		b.answer(seq + 1)
	}
}

// P21.3: what is answered may be written over: neither the Client nor another answer changes, whatever comes then.
func TestAnswersAreNew(t *testing.T) {
	b := newBoth(t, 1, 1, 2, 3)
	script := []func(){
		func() { b.adds(1) },
		func() { b.adds(4) },
		func() { b.answer(2) },
		func() { b.heard(1, api.Verdict{}, api.ErrLead, 3) },
		func() { b.answer(4, 1) },
		func() { b.adds(3) },
		func() { b.answer(3, 8, 5) },
		func() { b.adds(2) },
		func() { b.answer(6, 7, 9, 10) },
		func() { b.adds(1) },
	}
	for _, step := range script {
		step()
		_, raw, ok := b.client.Next()
		_, second, _ := b.client.Next()
		open, more := b.client.Open(), b.client.Open()
		results, again := b.client.Results(), b.client.Results()
		spoil(raw, 0xEE)
		spoil(open, 77)
		spoil(results, client.Result{Seq: 77, Verdict: api.Verdict{Num: 77}})
		if _, want, _ := b.said.next(); ok && !bytes.Equal(second, want) {
			t.Fatal("two answers of Next share")
		}
		if !slices.Equal(more, b.said.open()) || !slices.Equal(again, b.said.results) {
			t.Fatal("two answers share")
		}
		b.told("answers are written over")
	}
}

// P21.3: what was answered stays, whatever happens then.
func TestAnswersStay(t *testing.T) {
	b := newBoth(t, 1, 1, 2, 3)
	b.adds(6)
	b.answer(3, 2, 5)
	_, raw, _ := b.client.Next()
	_, want, _ := b.said.next()
	open, results := b.client.Open(), b.client.Results()
	wantOpen, wantResults := b.said.open(), slices.Clone(b.said.results)
	for i := range int64(20) {
		b.answer(i + 1)
		b.adds(1)
	}
	if !bytes.Equal(raw, want) || !slices.Equal(open, wantOpen) || !slices.Equal(results, wantResults) {
		t.Errorf("%v, %v, %v have become %v, %v, %v", want, wantOpen, wantResults, raw, open, results)
	}
}

// P21.3: two Clients, of one session too, have nothing in common.
func TestTwoClients(t *testing.T) {
	one, two := newBoth(t, 1, 1, 2), newBoth(t, 1, 1, 2)
	one.adds(3)
	two.told("the other one's calls")
	two.adds(1)
	two.heard(1, api.Verdict{}, api.ErrDown, 0)
	two.answer(1)
	one.told("the other one's calls")
	one.answer(1)
	two.told("the other one's calls")
}
