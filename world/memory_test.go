package world_test

import (
	"math"
	"slices"
	"testing"

	"quillet/api"
	"quillet/machine"
	"quillet/world"
)

// spoil writes over a list, its spare room too.
func spoil[T any](xs []T, x T) {
	xs = xs[:cap(xs)]
	for i := range xs {
		xs[i] = x
	}
}

func spoilSub(s api.Sub) {
	spoil(s.Reads, 77)
	spoil(s.Spans, api.Span{Lo: 70, Hi: 79})
	spoil(s.Writes, 78)
}

// roomy is a submission whose lists have something behind their ends.
func roomy(s api.Sub) (api.Sub, api.Sub) {
	all := api.Sub{Reads: append(slices.Clone(s.Reads), 71, 70), Spans: append(slices.Clone(s.Spans), api.Span{Lo: 9, Hi: 8}), Writes: append(slices.Clone(s.Writes), 73, 72)}
	s.Reads, s.Spans, s.Writes = all.Reads[:len(s.Reads)], all.Spans[:len(s.Spans)], all.Writes[:len(s.Writes)]
	return s, all
}

// P22.1: a submission that is handed in is neither changed nor kept, whether it is opened or not.
func TestSubmissionsAreNotKept(t *testing.T) {
	for _, in := range []api.Sub{
		{Snap: -1, Reads: []float64{3, 1, 3}, Spans: []api.Span{{Lo: 2, Hi: 3}, {Lo: 1, Hi: 2, HiOpen: true}}, Writes: []float64{5, math.Copysign(0, -1)}},
		{Snap: -3, Reads: []float64{1}, Writes: []float64{2}},
		{Snap: api.MaxNumber + 1, Reads: []float64{2, 1}},
	} {
		b := led(t, 1, 0, 1)
		s, all := roomy(in)
		was := api.Sub{Reads: slices.Clone(all.Reads), Spans: slices.Clone(all.Spans), Writes: slices.Clone(all.Writes)}
		b.do(world.Step{Kind: world.Ask, N: 1, Sub: s})
		if !sameSub(all, was) {
			t.Errorf("left is %v", all)
		}
		spoilSub(all)
		b.told("it is written over")
		b.do(step(world.Poll, 1))
		b.do(step(world.Poll, 1))
		b.same()
	}
}

// P22.1: which sectors are kept is neither changed nor kept.
func TestKeepIsNotKept(t *testing.T) {
	b := led(t, 1, 0, 1)
	room := []bool{true, false, true, true}
	for range 2 {
		b.must(world.Step{Kind: world.Crash, N: 1, Keep: room[:2]}, api.OK)
		if !slices.Equal(room, []bool{true, false, true, true}) {
			t.Fatalf("left is %v", room)
		}
	}
	spoil(room, false)
	b.must(step(world.Start, 1), api.OK)
}

// busyBoth lets some be decided.
func busyBoth(t *testing.T) *both {
	b := led(t, 3, 0, 2)
	for i := range 4 {
		b.ask(1+i%2, api.Sub{Snap: -1, Reads: []float64{1, 2}, Spans: []api.Span{{Lo: 5, Hi: 6}, {Lo: 8, Hi: 9}}, Writes: []float64{float64(i), 20 + float64(i)}})
		b.calm(2)
	}
	if len(b.world.History()) < 3 {
		t.Fatalf("the history is %v", b.world.History())
	}
	return b
}

// P22.1: what is answered may be written over: neither the World nor another answer changes.
func TestAnswersAreNew(t *testing.T) {
	b := busyBoth(t)
	decided, more := b.world.Decided(), b.world.Decided()
	history, again := b.world.History(), b.world.History()
	spoil(decided, world.Decision{Index: 77, Answer: machine.Answer{Session: 7}})
	for _, h := range history {
		spoilSub(h.Sub)
	}
	spoil(history, api.Done{Num: 77})
	if !slices.Equal(more, b.said.decided()) || !slices.EqualFunc(again, b.said.history(), sameDone) {
		t.Fatal("two answers share")
	}
	b.told("answers are written over")
	b.calm(3)
}

// P22.1: no two lists of one history share memory.
func TestHistorySharesNothing(t *testing.T) {
	b := busyBoth(t)
	h := b.world.History()
	want := b.said.history()
	for i := range h {
		for k, spoilOne := range []func(){
			func() { spoil(h[i].Sub.Reads, 77) },
			func() { spoil(h[i].Sub.Spans, api.Span{Lo: 70, Hi: 79}) },
			func() { spoil(h[i].Sub.Writes, 78) },
		} {
			spoilOne()
			left := h[i].Sub
			if k < 2 && !slices.Equal(left.Writes, want[i].Sub.Writes) || k < 1 && !slices.Equal(left.Spans, want[i].Sub.Spans) {
				t.Fatalf("two lists of %d share", i)
			}
		}
		if !slices.EqualFunc(h[i+1:], want[i+1:], sameDone) {
			t.Fatalf("%d shares with one behind it", i)
		}
	}
}

// P22.1: what was answered stays, whatever happens then.
func TestAnswersStay(t *testing.T) {
	b := busyBoth(t)
	decided, history := b.world.Decided(), b.world.History()
	wantDecided, wantHistory := b.said.decided(), b.said.history()
	for i := range 6 {
		b.ask(1, writes(float64(i)))
		b.must(step(world.Crash, 1+i%3), api.OK)
		b.calm(30)
	}
	if !slices.Equal(decided, wantDecided) || !slices.EqualFunc(history, wantHistory, sameDone) {
		t.Errorf("%v and %v have become %v and %v", wantDecided, wantHistory, decided, history)
	}
}

// P22.1: two Worlds have nothing in common.
func TestTwoWorlds(t *testing.T) {
	one, two := led(t, 2, 0, 1), led(t, 2, 0, 1)
	one.ask(1, writes(1))
	one.poll(1)
	two.told("the other one's steps")
	two.deliver()
	two.must(step(world.Crash, 1), api.OK)
	one.deliver()
	one.poll(1)
	one.results(1, verdict(1, 1))
	two.told("the other one's steps")
	two.calm(30)
	one.told("the other one's steps")
}
