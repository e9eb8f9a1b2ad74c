package vers_test

import (
	"fmt"
	"maps"
	"math"
	"slices"
	"testing"

	"quillet/api"
	"quillet/vers"
)

var (
	inf   = math.Inf(1)
	zero  = math.Copysign(0, -1)
	least = math.SmallestNonzeroFloat64
)

func up(x float64) float64   { return math.Nextafter(x, inf) }
func down(x float64) float64 { return math.Nextafter(x, -inf) }

// nans are NaNs of several bits.
func nans() []float64 {
	return []float64{math.NaN(), math.Float64frombits(0x7FF8000000000000), math.Float64frombits(0x7FF0000000000001), math.Float64frombits(0xFFF8000000000001), math.Float64frombits(math.MaxUint64)}
}

// edges are the keys at which numbers end or change, -0 and 0 both of them.
func edges() []float64 {
	return []float64{-inf, -math.MaxFloat64, -1, -least, zero, 0, least, 1, up(1), 2, math.MaxFloat64, inf}
}

// line is the edges and their neighbours, rising, each once.
func line() []float64 {
	var out []float64
	for _, x := range edges() {
		out = append(out, down(x)+0, x+0, up(x)+0) // -0 + 0 is 0
	}
	slices.Sort(out)
	return slices.Compact(out)
}

// spans are all that have these ends, open and closed.
func spans(ends ...float64) []api.Span {
	var out []api.Span
	for _, lo := range ends {
		for _, hi := range ends {
			out = append(out,
				api.Span{Lo: lo, Hi: hi},
				api.Span{Lo: lo, Hi: hi, LoOpen: true},
				api.Span{Lo: lo, Hi: hi, HiOpen: true},
				api.Span{Lo: lo, Hi: hi, LoOpen: true, HiOpen: true})
		}
	}
	return out
}

// has says by the document's words whether a span has a key; of NaN nothing holds.
func has(s api.Span, key float64) bool {
	lo := s.Lo < key || s.Lo == key && !s.LoOpen
	hi := key < s.Hi || key == s.Hi && !s.HiOpen
	return lo && hi
}

// said is what a table does by the document's words: numbers by keys, of which a map takes -0 and 0 for one.
type said struct {
	most int
	nums map[float64]int64
}

func saidNew(most int) *said {
	switch {
	case most < 0:
		most = 0
	case most > 64:
		most = 64
	}
	return &said{most, map[float64]int64{}}
}

func (s *said) put(key float64, n int64) api.Errno {
	if key != key {
		return api.ErrKey
	}
	if n < 1 || n > 1<<40 {
		return api.ErrName
	}
	old, there := s.nums[key]
	if !there && len(s.nums) == s.most {
		return api.ErrMany
	}
	if old < n {
		s.nums[key+0] = n
	}
	return api.OK
}

func (s *said) over(sp api.Span) int64 {
	best := int64(0)
	for key, n := range s.nums {
		if has(sp, key) && n > best {
			best = n
		}
	}
	return best
}

func (s *said) drop(n int64) int {
	gone := 0
	for key, m := range s.nums {
		if m <= n {
			delete(s.nums, key)
			gone++
		}
	}
	return gone
}

func (s *said) all() []vers.Item {
	var out []vers.Item
	for _, key := range slices.Sorted(maps.Keys(s.nums)) {
		out = append(out, vers.Item{Key: key, Num: s.nums[key]})
	}
	return out
}

// alike goes by the bits of the keys: -0 equals 0, but isn't a form.
func alike(a, b []vers.Item) bool {
	return slices.EqualFunc(a, b, func(x, y vers.Item) bool {
		return math.Float64bits(x.Key) == math.Float64bits(y.Key) && x.Num == y.Num
	})
}

// call is a Put of a key and a number, a Drop of a number, or a Clear.
type call struct {
	kind string
	key  float64
	n    int64
}

func put(key float64, n int64) call { return call{"Put", key, n} }
func drop(n int64) call             { return call{"Drop", 0, n} }
func clearing() call                { return call{kind: "Clear"} }

func (c call) String() string {
	switch c.kind {
	case "Put":
		return fmt.Sprintf("Put(%v, %d)", c.key, c.n)
	case "Drop":
		return fmt.Sprintf("Drop(%d)", c.n)
	}
	return c.kind
}

// both are a table and what the document says of it.
type both struct {
	tab  *vers.Table
	said *said
}

func newBoth(most int, cs ...call) both {
	x := both{vers.New(most), saidNew(most)}
	for _, c := range cs {
		x.do(c)
	}
	return x
}

// do does a call to both: what it answers, and what it should; an error's number, or how many.
func (x both) do(c call) (int, int) {
	switch c.kind {
	case "Put":
		return int(x.tab.Put(c.key, c.n)), int(x.said.put(c.key, c.n))
	case "Drop":
		return x.tab.Drop(c.n), x.said.drop(c.n)
	}
	x.tab.Clear()
	clear(x.said.nums)
	return 0, 0
}

// must does a call, which answers the same of both, and leaves both with the same keys.
func (x both) must(t *testing.T, c call) int {
	t.Helper()
	got, want := x.do(c)
	if got != want {
		t.Fatalf("%v = %d, not %d: %v", c, got, want, x.tab.All())
	}
	x.kept(t, c.String())
	return got
}

func (x both) kept(t *testing.T, what any) {
	t.Helper()
	all := x.said.all()
	if got := x.tab.All(); !alike(got, all) || x.tab.Len() != len(all) {
		t.Fatalf("%v: %d, %v, not %v", what, x.tab.Len(), got, all)
	}
}

// told asks for everything that a table can tell of these keys and spans.
func (x both) told(t *testing.T, what any, keys []float64, ss []api.Span) {
	t.Helper()
	x.kept(t, what)
	for _, key := range keys {
		if got := x.tab.At(key); got != x.said.nums[key] {
			t.Fatalf("%v: At(%v) = %d: %v", what, key, got, x.said.all())
		}
	}
	for _, s := range ss {
		if got := x.tab.Over(s); got != x.said.over(s) {
			t.Fatalf("%v: Over(%v) = %d: %v", what, s, got, x.said.all())
		}
	}
}
