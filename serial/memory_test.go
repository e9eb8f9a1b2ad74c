package serial_test

import (
	"math"
	"slices"
	"testing"

	"quillet/api"
	"quillet/serial"
)

// spoil writes over a list, its spare room too.
func spoil[T any](xs []T, x T) {
	xs = xs[:cap(xs)]
	for i := range xs {
		xs[i] = x
	}
}

// kept is a history whose lists have something behind their length, and tells whether any of it was changed.
func kept(h []api.Done) ([]api.Done, func() bool) {
	x := deep(h)
	for i := range x {
		s := &x[i].Sub
		s.Reads = append(s.Reads, 5, 1)[:len(s.Reads)]
		s.Writes = append(s.Writes, 5, 1)[:len(s.Writes)]
		s.Spans = append(s.Spans, shut(1, 5))[:len(s.Spans)]
	}
	x = append(x, api.Done{Num: 77, Sub: on(77, r(7))}, api.Done{Num: int64(len(x) + 1), Sub: on(0, w(1))})[:len(x)]
	was := deep(behind(x))
	return x, func() bool { return !slices.EqualFunc(behind(x), was, sameDone) }
}

// behind is a history with all that is behind the lengths of its lists.
func behind(h []api.Done) []api.Done {
	out := slices.Clone(h[:cap(h)])
	for i := range out {
		s := &out[i].Sub
		s.Reads, s.Writes, s.Spans = s.Reads[:cap(s.Reads)], s.Writes[:cap(s.Writes)], s.Spans[:cap(s.Spans)]
	}
	return out
}

func deep(h []api.Done) []api.Done {
	out := slices.Clone(h)
	for i := range out {
		s := &out[i].Sub
		s.Reads, s.Writes, s.Spans = slices.Clone(s.Reads), slices.Clone(s.Writes), slices.Clone(s.Spans)
	}
	return out
}

func sameDone(a, b api.Done) bool {
	return a.Num == b.Num && a.Sub.Session == b.Sub.Session && a.Sub.Seq == b.Sub.Seq && a.Sub.Snap == b.Sub.Snap &&
		slices.EqualFunc(a.Sub.Reads, b.Sub.Reads, sameKey) && slices.EqualFunc(a.Sub.Writes, b.Sub.Writes, sameKey) &&
		slices.Equal(a.Sub.Spans, b.Sub.Spans)
}

func sameKey(a, b float64) bool { return math.Float64bits(a) == math.Float64bits(b) }

// histories are of every kind: with an order, without, not right.
func histories() [][]api.Done {
	return [][]api.Done{
		nil,
		done(on(0)),
		many(64),
		many(65),
		done(on(0, w(1)), on(0, r(1), w(2)), on(0, r(2), w(3), sp(shut(7, 8))), on(0, r(3))),
		done(on(0, r(1), w(2)), on(0, r(2), w(1)), on(1, w(7), sp(shut(1, 5)))),
		done(on(0, w(2, 1)), on(0, r(zero))),
		done(on(0, w(1, 2), r(3, 4)), on(1, w(1, 2), r(3, 4))),
	}
}

// P12.3: arguments stay, all that is behind their lengths too, and aren't looked at there.
func TestArgumentsStay(t *testing.T) {
	for i, h := range histories() {
		x, changed := kept(h)
		order, _ := saidOrder(h)
		backed := append(slices.Clone(order), 1, 2, 3)
		was := slices.Clone(backed)
		asked(t, i, x)
		askedReads(t, i, x, backed[:len(order)])
		if changed() || !slices.Equal(backed, was) {
			t.Errorf("history %d was changed", i)
		}
	}
}

// P12.3: answers may be written over: neither another answer nor an argument changes.
func TestAnswersAreNew(t *testing.T) {
	for i, h := range histories() {
		x, changed := kept(h)
		edges, more := serial.Edges(x), serial.Edges(x)
		order, _ := serial.Order(x)
		second, _ := serial.Order(x)
		stuck, third := serial.Stuck(x), serial.Stuck(x)
		spoil(edges, serial.Edge{From: 77, To: 78})
		spoil(order, 77)
		spoil(stuck, 77)
		want, _ := saidOrder(h)
		if !slices.Equal(more, saidEdges(h)) || !slices.Equal(second, want) || !slices.Equal(third, saidStuck(h)) {
			t.Errorf("history %d: two answers share", i)
		}
		if changed() {
			t.Errorf("history %d shares with an answer", i)
		}
		asked(t, i, x)
	}
}

// P12.3: what was answered stays when the argument is written over.
func TestArgumentsAreNotKept(t *testing.T) {
	for i, h := range histories() {
		x, _ := kept(h)
		edges, stuck := serial.Edges(x), serial.Stuck(x)
		order, _ := serial.Order(x)
		for _, y := range x {
			spoil(y.Sub.Reads, -77)
			spoil(y.Sub.Writes, -77)
			spoil(y.Sub.Spans, shut(-77, -7))
		}
		spoil(x, api.Done{Num: 77})
		want, _ := saidOrder(h)
		if !slices.Equal(edges, saidEdges(h)) || !slices.Equal(stuck, saidStuck(h)) || !slices.Equal(order, want) {
			t.Errorf("history %d: an answer changes with it", i)
		}
	}
}
