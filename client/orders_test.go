package client_test

import (
	"math/rand/v2"
	"slices"
	"testing"

	"quillet/api"
	"quillet/cert"
	"quillet/machine"
	"quillet/sub"
)

// starts are Clients that are some way on, at the window's edges.
func starts() []func(t *testing.T) *both {
	return []func(t *testing.T) *both{
		func(t *testing.T) *both { return newBoth(t, 1, 1, 2, 3) },
		func(t *testing.T) *both { return grown(t, 7) },
		func(t *testing.T) *both { return grown(t, 8, 2, 3) },
		func(t *testing.T) *both { return grown(t, 8, 1, 8) },
	}
}

// grown has given so many numbers, of which some are answered.
func grown(t *testing.T, n int, answered ...int64) *both {
	b := newBoth(t, 2, 2, 3, 7)
	b.adds(n)
	b.answer(answered...)
	return b
}

// chosen are calls of which every order is tried.
func chosen() []func(b *both) {
	good, bad := goodWishes(), badWishes()
	return []func(b *both){
		func(b *both) { b.add(good[4]) },
		func(b *both) { b.add(good[5]) },
		func(b *both) { b.add(bad[3]) },
		func(b *both) { b.heard(1, of(1), api.OK, 2) },
		func(b *both) { b.heard(2, of(2), api.OK, 0) },
		func(b *both) { b.heard(8, of(8), api.OK, 0) },
		func(b *both) { b.heard(2, of(2), api.ErrLead, 3) },
		func(b *both) { b.heard(1, of(1), api.ErrLead, 7) },
		func(b *both) { b.heard(7, of(7), api.ErrLead, 2) },
		func(b *both) { b.heard(1, of(1), api.ErrBusy, 3) },
		func(b *both) { b.heard(1, of(1), api.ErrDown, 3) },
		func(b *both) { b.heard(9, of(9), api.ErrForm, 0) },
	}
}

// P21.1, P21.2: every order of four of the chosen calls, each as often as may be, from all starts.
func TestEveryOrder(t *testing.T) {
	for _, start := range starts() {
		for k := range chosen() {
			t.Run("", func(t *testing.T) {
				t.Parallel()
				everyOrder(t, start, chosen(), []int{k})
			})
		}
	}
}

func everyOrder(t *testing.T, start func(t *testing.T) *both, calls []func(b *both), script []int) {
	if len(script) == 4 {
		b := start(t)
		for _, k := range script {
			calls[k](b)
		}
		b.sound(int64(len(b.said.added)))
		return
	}
	for k := range calls {
		everyOrder(t, start, calls, append(slices.Clone(script), k))
	}
}

type dice struct{ *rand.Rand }

func pick[T any](d dice, xs []T) T { return xs[d.IntN(len(xs))] }

// seq is a number that is open, most of the time, or near.
func (d dice) seq(b *both) int64 {
	if open := b.said.open(); len(open) > 0 && d.IntN(5) > 0 {
		return pick(d, open)
	}
	return int64(len(b.said.added)) - 10 + d.Int64N(13)
}

func (d dice) code() api.Errno {
	return pick(d, []api.Errno{api.OK, api.OK, api.OK, api.ErrLead, api.ErrLead, api.ErrBusy, api.ErrDown, api.ErrForm})
}

// P21.1, P21.2: long runs of all calls; all answers come that Add has.
func TestLongRuns(t *testing.T) {
	seen := map[api.Errno]int{}
	good, bad := goodWishes(), badWishes()
	for seed := range 60 {
		d := dice{rand.New(rand.NewPCG(21, uint64(seed)))}
		b := newBoth(t, 1+d.Int64N(top), pick(d, [][]int{{1}, {1, 2, 3}, {2, 6}, {1, 2, 3, 4, 5, 6, 7}})...)
		for range 200 {
			switch d.IntN(9) {
			case 0, 1, 2, 3:
				w := pick(d, good)
				w.in.Snap = d.Int64N(top + 1)
				w.want.Snap = w.in.Snap
				_, e := b.add(w)
				seen[e]++
			case 4:
				_, e := b.add(pick(d, bad))
				seen[e]++
			default:
				seq := d.seq(b)
				b.heard(seq, api.Verdict{Code: api.Errno(d.IntN(3)), Num: d.Int64N(top)}, d.code(), d.IntN(9))
			}
			b.sound(int64(len(b.said.added)))
		}
	}
	for _, e := range []api.Errno{api.OK, api.ErrMany, api.ErrName, api.ErrKey, api.ErrSpan} {
		if seen[e] < 30 {
			t.Errorf("the answer %d came %d times alone", e, seen[e])
		}
	}
}

// P21.2: what is asked for again and again, in whatever order the copies arrive, is decided once, and none that is open has expired by then.
func TestNoneExpires(t *testing.T) {
	for seed := range 40 {
		d := dice{rand.New(rand.NewPCG(212, uint64(seed)))}
		b := newBoth(t, 3, 1)
		m := machine.New(cert.Conf{Keep: 32, Old: 64})
		var way [][]byte // copies of what was asked, of which none is ever lost
		told := map[int64]api.Verdict{}
		for range 300 {
			b.add(wish{in: api.Sub{Snap: m.Count()}, want: api.Sub{Snap: m.Count()}})
			if _, raw, ok := b.client.Next(); ok {
				way = append(way, raw)
			}
			raw := pick(d, way)
			a, e := m.Apply(api.Entry{Index: m.Index() + 1, Kind: api.Submit, Data: raw})
			if s, code := sub.Decode(raw); e != api.OK || code != api.OK || a.Session != 3 || a.Seq != s.Seq {
				t.Fatalf("%v is applied as %v, %d", raw, a, e)
			}
			if b.said.isOpen(a.Seq) && a.Verdict.Code == api.ErrGone {
				t.Fatalf("%d has expired, and is open", a.Seq)
			}
			if a.Fresh {
				told[a.Seq] = a.Verdict
			}
			if d.IntN(2) == 0 {
				b.heard(a.Seq, a.Verdict, api.OK, 0)
			}
		}
		for _, r := range b.client.Results() {
			if told[r.Seq] != r.Verdict {
				t.Fatalf("of %d was decided %v, and heard %v", r.Seq, told[r.Seq], r.Verdict)
			}
		}
		if len(b.client.Results()) < 10 {
			t.Errorf("%d results alone", len(b.client.Results()))
		}
	}
}
