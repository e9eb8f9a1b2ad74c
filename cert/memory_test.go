package cert_test

import (
	"slices"
	"testing"

	"quillet/api"
	"quillet/cert"
)

// spoil writes over a list, its spare room too.
func spoil[T any](xs []T, x T) {
	xs = xs[:cap(xs)]
	for i := range xs {
		xs[i] = x
	}
}

func spoilSub(s api.Sub) {
	spoil(s.Reads, -77)
	spoil(s.Writes, -77)
	spoil(s.Spans, api.Span{Lo: -77, Hi: -7, LoOpen: true})
}

// backed is a submission whose lists have something behind their length, and tells whether any of it was changed.
func backed(s api.Sub) (api.Sub, func() bool) {
	x := cloned(s)
	x.Reads = append(x.Reads, 55, 56)
	x.Writes = append(x.Writes, 57, 58)
	x.Spans = append(x.Spans, shut(59, 60))
	was := cloned(x)
	whole := x
	x.Reads, x.Writes, x.Spans = x.Reads[:len(s.Reads)], x.Writes[:len(s.Writes)], x.Spans[:len(s.Spans)]
	return x, func() bool {
		return !slices.EqualFunc(whole.Reads, was.Reads, sameKey) || !slices.EqualFunc(whole.Writes, was.Writes, sameKey) || !slices.EqualFunc(whole.Spans, was.Spans, sameSpan)
	}
}

// ones are submissions of every kind: they commit, go into the summary, are wrong, are refused.
func ones() []api.Sub {
	return []api.Sub{
		on(0, w(1)), on(0, r(1, 2), w(2, 3), sp(shut(4, 5), shut(7, 8))), on(2), on(0, w(1)), on(1, r(2), w(9)),
		on(2, r(2, 1)), on(2, w(zero)), on(9, r(1)), on(3, r(3), w(4)), on(3, w(5), sp(shut(3, 4))), on(5, r(upTo(0, 16)...), w(upTo(0, 16)...)), on(6, sp(shut(1, 1))), on(7, w(5, 6)), on(0),
	}
}

// P11.5: a submission isn't changed, and may be written over behind the call.
func TestArgumentsAreNotKept(t *testing.T) {
	for _, conf := range confs() {
		b := newBoth(conf)
		for _, s := range ones() {
			x, changed := backed(s)
			v := b.cert.Decide(x)
			if changed() {
				t.Fatalf("%v: Decide(%v) has changed it", conf, s)
			}
			spoilSub(x)
			if want := b.said.decide(s); v != want {
				t.Fatalf("%v: Decide(%v) = %v, not %v", conf, s, v, want)
			}
			b.told(t, s)
		}
		// What is kept is asked for by what comes later, too.
		for snap := range b.said.count + 1 {
			b.do(t, on(snap, r(1, 2, 3, 5), w(4, 9)))
		}
	}
}

// P11.5: what Recent and Bytes answer may be written over: neither the Cert nor another answer changes.
func TestAnswersAreNew(t *testing.T) {
	for _, conf := range confs() {
		b := newBoth(conf)
		for _, s := range ones() {
			b.do(t, s)
			first, second := b.cert.Recent(), b.cert.Recent()
			bytes := b.cert.Bytes()
			more := b.cert.Bytes()
			for _, x := range first {
				spoilSub(x.Sub)
			}
			spoil(first, api.Done{Num: 77, Sub: on(77, r(-77))})
			spoil(bytes, 77)
			if !slices.EqualFunc(second, b.said.dones(), sameDone) || !slices.Equal(more, b.said.image().bytes()) {
				t.Fatalf("%v: two answers share", conf)
			}
			b.told(t, "answers are written over")
		}
	}
}

// P11.5: no two lists of one answer share memory.
func TestListsOfAnAnswer(t *testing.T) {
	b := newBoth(roomy)
	for _, s := range ones() {
		b.do(t, s)
	}
	for i := range b.cert.Recent() {
		for list := range 3 {
			got, want := b.cert.Recent(), b.said.dones()
			switch x := got[i].Sub; list {
			case 0:
				spoil(x.Reads, -77)
				got[i].Sub.Reads = want[i].Sub.Reads
			case 1:
				spoil(x.Writes, -77)
				got[i].Sub.Writes = want[i].Sub.Writes
			case 2:
				spoil(x.Spans, shut(-77, -7))
				got[i].Sub.Spans = want[i].Sub.Spans
			}
			if !slices.EqualFunc(got, want, sameDone) {
				t.Errorf("list %d of recent one %d is shared", list, i)
			}
		}
	}
}

// P11.5: what was answered stays, whatever is decided later.
func TestAnswersStay(t *testing.T) {
	for _, conf := range confs() {
		b := newBoth(conf)
		for _, s := range ones() {
			recent, want := b.cert.Recent(), b.said.dones()
			bytes, form := b.cert.Bytes(), b.said.image().bytes()
			b.do(t, s)
			b.commits(t, on(b.said.count, r(3), w(3)))
			if !slices.EqualFunc(recent, want, sameDone) || !slices.Equal(bytes, form) {
				t.Fatalf("%v: %v changes what was answered", conf, s)
			}
		}
	}
}

// P11.5: bytes that are loaded are neither changed nor kept; two that are loaded of the same share nothing.
func TestLoadedBytesAreNotKept(t *testing.T) {
	conf, m := rich()
	back := append(m.bytes(), 55, 56)
	b := back[: len(back)-2 : len(back)]
	x, e := cert.Load(conf, b)
	y, _ := cert.Load(conf, b)
	if e != api.OK || !slices.Equal(back, append(m.bytes(), 55, 56)) {
		t.Fatalf("Load = %d, and leaves %v", e, back)
	}
	spoil(back, 77)
	a := &both{conf: conf, cert: x, said: saidLoad(conf, m.bytes())}
	a.told(t, "the bytes are written over")
	a.commits(t, on(10, r(1), w(1)), on(11, w(2), sp(shut(5, 6))), on(12), on(13))
	(&both{conf: conf, cert: y, said: saidLoad(conf, m.bytes())}).told(t, "another one goes on")
}
