package rlog_test

import (
	"math/rand/v2"
	"slices"
	"testing"

	"quillet/api"
)

// chosen are calls of which every order is tried; those that append do so by what is last.
func chosen() []func(t *testing.T, b *both) api.Errno {
	behind := func(by, up int64, make func(index, term int64) api.Entry) func(t *testing.T, b *both) api.Errno {
		return func(t *testing.T, b *both) api.Errno {
			index, term := b.said.last()
			return b.append(t, make(index+by, term+up))
		}
	}
	return []func(t *testing.T, b *both) api.Errno{
		behind(1, 0, noop),
		behind(1, 1, func(index, term int64) api.Entry { return change(index, term, voters(int(index)%7+1)) }),
		behind(2, 0, noop),
		behind(1, -1, noop),
		func(t *testing.T, b *both) api.Errno {
			index, term := b.said.last()
			return b.append(t, change(index+1, term, voters(1, 2)), submit(index+2, term+2, "x"))
		},
		func(t *testing.T, b *both) api.Errno {
			index, term := b.said.last()
			return b.append(t, change(index+1, term+1, voters(6)), submit(index+2, term, "y"))
		},
		func(t *testing.T, b *both) api.Errno { index, _ := b.said.last(); return b.cutFrom(t, index) },
		func(t *testing.T, b *both) api.Errno { return b.cutFrom(t, b.said.index+2) },
		func(t *testing.T, b *both) api.Errno { return b.dropTo(t, b.said.index+1) },
		func(t *testing.T, b *both) api.Errno { index, _ := b.said.last(); return b.dropTo(t, index) },
	}
}

// P16.1 to P16.3: every order of up to five of the chosen calls, each as often as may be.
func TestEveryOrder(t *testing.T) {
	for i := range chosen() {
		t.Run("", func(t *testing.T) {
			t.Parallel()
			everyOrder(t, []int{i})
		})
	}
}

func everyOrder(t *testing.T, script []int) {
	b := newBoth(3, 1, api.Conf{Voters: []int{2}, Learners: []int{5}})
	calls := chosen()
	for _, i := range script {
		calls[i](t, b)
	}
	b.around(t)
	if len(script) == 5 {
		return
	}
	for i := range calls {
		everyOrder(t, append(slices.Clone(script), i))
	}
}

// dice makes calls that are mostly near what there is.
type dice struct{ *rand.Rand }

func (d dice) index(b *both) int64 {
	last, _ := b.said.last()
	if d.IntN(12) == 0 {
		return []int64{-1, 0, top, top + 1, last + 5}[d.IntN(5)]
	}
	return b.said.index - 1 + d.Int64N(last-b.said.index+4)
}

func (d dice) entries(b *both) []api.Entry {
	index, term := b.said.last()
	out := make([]api.Entry, d.IntN(5))
	for i := range out {
		index, term = index+1, term+d.Int64N(3)*d.Int64N(2)
		switch d.IntN(4) {
		case 0:
			out[i] = change(index, term, voters(1+d.IntN(3), 4+d.IntN(4)))
		case 1:
			out[i] = noop(index, term)
		default:
			out[i] = submit(index, term, "abcdefgh"[:d.IntN(9)])
		}
		switch d.IntN(25) {
		case 0:
			out[i].Index += d.Int64N(3) - 1
		case 1:
			out[i].Term -= 1 + d.Int64N(3)
		case 2:
			out[i].Kind = d.IntN(5) - 1
		}
	}
	return out
}

// P16.1 to P16.3: many calls.
func TestManyCalls(t *testing.T) {
	seen := map[[2]int]int{}
	for seed := range 60 {
		d := dice{rand.New(rand.NewPCG(16, uint64(seed)))}
		b := newBoth(d.Int64N(4), d.Int64N(3), voters(1, 2, 3))
		for range 400 {
			kind := d.IntN(10)
			var code api.Errno
			switch {
			case kind < 6:
				kind, code = 0, b.append(t, d.entries(b)...)
			case kind < 8:
				kind, code = 1, b.cutFrom(t, d.index(b))
			default:
				kind, code = 2, b.dropTo(t, d.index(b))
			}
			seen[[2]int{kind, int(code)}]++
			if d.IntN(8) == 0 {
				b.around(t)
			}
			follows(t, b)
		}
	}
	for _, x := range [][2]int{{0, 0}, {0, 1}, {0, 60}, {0, 42}, {1, 0}, {1, 1}, {2, 0}, {2, 1}} {
		if seen[x] < 100 {
			t.Errorf("call %d answered %d %d times alone", x[0], x[1], seen[x])
		}
	}
}

// P16.2: follows asks the log itself whether indexes follow, and terms never fall.
func follows(t *testing.T, b *both) {
	t.Helper()
	index, term := b.log.Base()
	for _, e := range b.log.Entries(index, 1<<20) {
		if e.Index != index+1 || e.Term < term {
			t.Fatalf("%d of term %d is behind %d of term %d", e.Index, e.Term, index, term)
		}
		index, term = e.Index, e.Term
	}
}
