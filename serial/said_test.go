package serial_test

import (
	"cmp"
	"math"
	"slices"

	"quillet/api"
	"quillet/serial"
	"quillet/sub"
)

var (
	inf   = math.Inf(1)
	nan   = math.NaN()
	zero  = math.Copysign(0, -1)
	least = math.SmallestNonzeroFloat64
)

func up(x float64) float64   { return math.Nextafter(x, inf) }
func down(x float64) float64 { return math.Nextafter(x, -inf) }

func shut(lo, hi float64) api.Span { return api.Span{Lo: lo, Hi: hi} }

// r, w and sp are what a submission reads by Reads, writes, and reads by Spans.
func r(keys ...float64) part    { return func(s *api.Sub) { s.Reads = keys } }
func w(keys ...float64) part    { return func(s *api.Sub) { s.Writes = keys } }
func sp(spans ...api.Span) part { return func(s *api.Sub) { s.Spans = spans } }

type part func(s *api.Sub)

// on is a submission with that Snap.
func on(snap int64, parts ...part) api.Sub {
	s := api.Sub{Session: 3, Seq: 5, Snap: snap}
	for _, p := range parts {
		p(&s)
	}
	return s
}

// done is a history of these, numbered from 1 on.
func done(ss ...api.Sub) []api.Done {
	var h []api.Done
	for i, s := range ss {
		h = append(h, api.Done{Num: int64(i + 1), Sub: s})
	}
	return h
}

// reads says whether a right submission reads a key; writes, whether it writes it.
func reads(s api.Sub, key float64) bool {
	for _, x := range s.Spans {
		if x.Lo <= key && key <= x.Hi { // a right one is closed
			return true
		}
	}
	return slices.Contains(s.Reads, key)
}

func writes(s api.Sub, key float64) bool { return slices.Contains(s.Writes, key) }

// written are the keys that transactions write.
func written(h []api.Done) []float64 {
	var keys []float64
	for _, t := range h {
		keys = append(keys, t.Sub.Writes...)
	}
	slices.Sort(keys)
	return slices.Compact(keys)
}

// saidRight is Right by the document's words.
func saidRight(h []api.Done) bool {
	if len(h) > 64 {
		return false
	}
	next := int64(1)
	for _, t := range h {
		if t.Num != next || sub.Check(t.Sub) != api.OK || t.Sub.Snap >= t.Num {
			return false
		}
		next++
	}
	for _, key := range written(h) {
		for _, t := range h {
			for _, u := range h {
				besides := t.Num != u.Num && t.Sub.Snap < u.Num && u.Sub.Snap < t.Num
				if besides && writes(t.Sub, key) && writes(u.Sub, key) {
					return false
				}
			}
		}
	}
	return true
}

// saidVersion is the greatest number, up to its Snap, of those that write the key.
func saidVersion(h []api.Done, t api.Done, key float64) int64 {
	n := int64(0)
	for _, u := range h {
		if u.Num <= t.Sub.Snap && writes(u.Sub, key) {
			n = max(n, u.Num)
		}
	}
	return n
}

// saidEdges is Edges by the document's words: key by key, one that writes it after the other.
func saidEdges(h []api.Done) []serial.Edge {
	if !saidRight(h) {
		return nil
	}
	var out []serial.Edge
	lead := func(from, to api.Done, yes bool) {
		if yes {
			out = append(out, serial.Edge{From: from.Num, To: to.Num})
		}
	}
	for _, key := range written(h) {
		for _, t := range h {
			if !writes(t.Sub, key) {
				continue
			}
			for _, u := range h {
				other := u.Num != t.Num
				lead(t, u, u.Num > t.Num && writes(u.Sub, key))
				lead(t, u, other && reads(u.Sub, key) && u.Sub.Snap >= t.Num)
				lead(u, t, other && reads(u.Sub, key) && u.Sub.Snap < t.Num)
			}
		}
	}
	slices.SortFunc(out, func(a, b serial.Edge) int { return cmp.Or(cmp.Compare(a.From, b.From), cmp.Compare(a.To, b.To)) })
	return slices.Compact(out)
}

// saidLine lets numbers come by the document's words, and tells which haven't when none can.
func saidLine(h []api.Done) (come, stuck []int64) {
	edges := saidEdges(h)
	for _, t := range h {
		stuck = append(stuck, t.Num)
	}
	for {
		free := slices.IndexFunc(stuck, func(n int64) bool {
			return !slices.ContainsFunc(edges, func(e serial.Edge) bool { return e.To == n && slices.Contains(stuck, e.From) })
		})
		if free < 0 {
			return come, stuck
		}
		come = append(come, stuck[free])
		stuck = slices.Delete(stuck, free, free+1)
	}
}

func saidOrder(h []api.Done) ([]int64, bool) {
	if !saidRight(h) {
		return nil, false
	}
	come, stuck := saidLine(h)
	if len(stuck) > 0 {
		return nil, false
	}
	return come, true
}

func saidStuck(h []api.Done) []int64 {
	if !saidRight(h) {
		return nil
	}
	_, stuck := saidLine(h)
	return stuck
}

// saidReads is Reads by the document's words: transaction by transaction, looking back from its place.
func saidReads(h []api.Done, order []int64) bool {
	if !saidRight(h) || len(order) != len(h) {
		return false
	}
	places := map[int64]int{}
	for i, n := range order {
		if n < 1 || n > int64(len(h)) {
			return false
		}
		places[n] = i
	}
	if len(places) != len(h) {
		return false
	}
	for _, t := range h {
		for _, key := range written(h) {
			if reads(t.Sub, key) && lastAhead(h, order[:places[t.Num]], key) != saidVersion(h, t, key) {
				return false
			}
		}
	}
	return true
}

// lastAhead is the number of the last of these that writes a key, 0 if none does.
func lastAhead(h []api.Done, ahead []int64, key float64) int64 {
	for _, n := range slices.Backward(ahead) {
		if writes(h[n-1].Sub, key) {
			return n
		}
	}
	return 0
}

// permutations are the orders of the numbers 1 to n, by the first number, then by the second and so on.
func permutations(n int) [][]int64 {
	var out [][]int64
	var begin []int64
	var more func()
	more = func() {
		if len(begin) == n {
			out = append(out, slices.Clone(begin))
		}
		for x := int64(1); x <= int64(n); x++ {
			if !slices.Contains(begin, x) {
				begin = append(begin, x)
				more()
				begin = begin[:len(begin)-1]
			}
		}
	}
	more()
	return out
}

// leadsBack says whether an edge leads back in an order.
func leadsBack(edges []serial.Edge, order []int64) bool {
	return slices.ContainsFunc(edges, func(e serial.Edge) bool { return slices.Index(order, e.From) > slices.Index(order, e.To) })
}
