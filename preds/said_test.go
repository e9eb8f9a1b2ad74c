package preds_test

import (
	"cmp"
	"fmt"
	"maps"
	"math"
	"slices"
	"testing"

	"quillet/api"
	"quillet/preds"
)

var (
	inf   = math.Inf(1)
	zero  = math.Copysign(0, -1)
	least = math.SmallestNonzeroFloat64
)

func up(x float64) float64   { return math.Nextafter(x, inf) }
func down(x float64) float64 { return math.Nextafter(x, -inf) }

func shut(lo, hi float64) api.Span  { return api.Span{Lo: lo, Hi: hi} }
func left(lo, hi float64) api.Span  { return api.Span{Lo: lo, Hi: hi, LoOpen: true} }
func right(lo, hi float64) api.Span { return api.Span{Lo: lo, Hi: hi, HiOpen: true} }
func open(lo, hi float64) api.Span  { return api.Span{Lo: lo, Hi: hi, LoOpen: true, HiOpen: true} }

// nans are NaNs of several bits.
func nans() []float64 {
	return []float64{math.NaN(), math.Float64frombits(0x7FF0000000000001), math.Float64frombits(0xFFF8000000000001), math.Float64frombits(math.MaxUint64)}
}

// edges are the keys at which numbers end or change, -0 and 0 both of them.
func edges() []float64 {
	return []float64{-inf, -math.MaxFloat64, -least, zero, 0, least, 1, up(1), 2, math.MaxFloat64, inf}
}

// line is the edges and their neighbours, rising, each once.
func line() []float64 {
	var out []float64
	for _, x := range edges() {
		out = append(out, down(x)+0, x+0, up(x)+0) // -0 + 0 is 0
	}
	slices.Sort(out)
	return slices.Compact(out)
}

// spans are all that have these ends, open and closed.
func spans(ends ...float64) []api.Span {
	var out []api.Span
	for _, lo := range ends {
		for _, hi := range ends {
			out = append(out, shut(lo, hi), left(lo, hi), right(lo, hi), open(lo, hi))
		}
	}
	return out
}

// has says by the document's words whether a span has a key; of NaN nothing holds.
func has(s api.Span, key float64) bool {
	lo := s.Lo < key || s.Lo == key && !s.LoOpen
	hi := key < s.Hi || key == s.Hi && !s.HiOpen
	return lo && hi
}

// form is the first and the last key of a span, and whether it has any.
func form(s api.Span) (api.Span, bool) {
	lo, hi := s.Lo+0, s.Hi+0 // -0 + 0 is 0
	if s.LoOpen {
		lo = up(s.Lo) + 0
	}
	if s.HiOpen {
		hi = down(s.Hi) + 0
	}
	// Open at the end of all numbers, there is no next one.
	return shut(lo, hi), lo <= hi && has(s, lo) && has(s, hi)
}

// said is what a table does by the document's words: numbers by forms.
type said struct {
	most int
	nums map[api.Span]int64
}

func saidNew(most int) *said {
	switch {
	case most < 0:
		most = 0
	case most > 64:
		most = 64
	}
	return &said{most, map[api.Span]int64{}}
}

func (s *said) put(sp api.Span, n int64) api.Errno {
	f, any := form(sp)
	if !any {
		return api.ErrSpan
	}
	if n < 1 || n > 1<<40 {
		return api.ErrName
	}
	old, there := s.nums[f]
	if !there && len(s.nums) == s.most {
		return api.ErrMany
	}
	if old < n {
		s.nums[f] = n
	}
	return api.OK
}

func (s *said) at(key float64) int64 {
	best := int64(0)
	for f, n := range s.nums {
		if has(f, key) && n > best {
			best = n
		}
	}
	return best
}

func (s *said) drop(n int64) int {
	gone := 0
	for f, m := range s.nums {
		if m <= n {
			delete(s.nums, f)
			gone++
		}
	}
	return gone
}

func (s *said) all() []preds.Item {
	var out []preds.Item
	for _, f := range slices.SortedFunc(maps.Keys(s.nums), func(a, b api.Span) int {
		return cmp.Or(cmp.Compare(a.Lo, b.Lo), cmp.Compare(a.Hi, b.Hi))
	}) {
		out = append(out, preds.Item{Span: f, Num: s.nums[f]})
	}
	return out
}

// alike goes by the bits of the ends: -0 equals 0, but isn't a form.
func alike(a, b []preds.Item) bool {
	return slices.EqualFunc(a, b, func(x, y preds.Item) bool {
		return x == y && math.Float64bits(x.Span.Lo) == math.Float64bits(y.Span.Lo) && math.Float64bits(x.Span.Hi) == math.Float64bits(y.Span.Hi)
	})
}

// call is a Put of a span and a number, a Drop of a number, or a Clear.
type call struct {
	kind string
	s    api.Span
	n    int64
}

func put(s api.Span, n int64) call { return call{"Put", s, n} }
func drop(n int64) call            { return call{"Drop", api.Span{}, n} }
func clearing() call               { return call{kind: "Clear"} }

func (c call) String() string {
	switch c.kind {
	case "Put":
		return fmt.Sprintf("Put(%v, %d)", c.s, c.n)
	case "Drop":
		return fmt.Sprintf("Drop(%d)", c.n)
	}
	return c.kind
}

// both are a table and what the document says of it.
type both struct {
	tab  *preds.Table
	said *said
}

func newBoth(most int, cs ...call) both {
	x := both{preds.New(most), saidNew(most)}
	for _, c := range cs {
		x.do(c)
	}
	return x
}

// do does a call to both: what it answers, and what it should; an error's number, or how many.
func (x both) do(c call) (int, int) {
	switch c.kind {
	case "Put":
		return int(x.tab.Put(c.s, c.n)), int(x.said.put(c.s, c.n))
	case "Drop":
		return x.tab.Drop(c.n), x.said.drop(c.n)
	}
	x.tab.Clear()
	clear(x.said.nums)
	return 0, 0
}

// must does a call, which answers the same of both, and leaves both with the same spans.
func (x both) must(t *testing.T, c call) int {
	t.Helper()
	got, want := x.do(c)
	if got != want {
		t.Fatalf("%v = %d, not %d: %v", c, got, want, x.tab.All())
	}
	x.kept(t, c.String())
	return got
}

func (x both) kept(t *testing.T, what any) {
	t.Helper()
	all := x.said.all()
	if got := x.tab.All(); !alike(got, all) || x.tab.Len() != len(all) {
		t.Fatalf("%v: %d, %v, not %v", what, x.tab.Len(), got, all)
	}
}

// told asks for everything that a table can tell of these keys.
func (x both) told(t *testing.T, what any, keys []float64) {
	t.Helper()
	x.kept(t, what)
	for _, key := range keys {
		if got := x.tab.At(key); got != x.said.at(key) {
			t.Fatalf("%v: At(%v) = %d: %v", what, key, got, x.said.all())
		}
	}
}
