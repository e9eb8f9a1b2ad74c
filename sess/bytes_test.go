package sess_test

import (
	"math"
	"math/rand/v2"
	"slices"
	"testing"

	"quillet/api"
)

// rich is what a Table has that has some of everything.
func rich() image {
	return image{
		{3, 20, []item{{13, 0, 5}, {14, 999, 0}, {20, 7, top}}},
		{5, 1, []item{{1, 0, 0}}},
		{70, 8, []item{{1, 0, 1}, {2, 0, 2}, {3, 0, 3}, {4, 0, 4}, {5, 0, 5}, {6, 0, 6}, {7, 0, 7}, {8, 0, 8}}},
		{top, top, []item{{top - 7, 110, 0}, {top, 0, 64}}},
	}
}

// just asks of an image that is right, with one thing changed so that it is just right, or just not.
func just(t *testing.T, name string, ok bool, change func(m *image)) {
	t.Helper()
	m := rich()
	change(&m)
	x := loads(t, name, m.bytes())
	if (x != nil) != ok {
		t.Errorf("%s: Load takes it: %v", name, x != nil)
	}
	if x != nil {
		x.around(t)
	}
}

// P13.1, P13.3: each thing that a Table's bytes keep to, just met and just not met.
func TestLoadJust(t *testing.T) {
	just(t, "as it is", true, func(m *image) {})
	for id, ok := range map[int64]bool{-1: false, 0: false, 1: true, 2: true, 3: true, 4: true, 5: false, 6: false, top: false, top + 1: false, math.MinInt64: false, math.MaxInt64: false} {
		just(t, "the first session's number", ok, func(m *image) { (*m)[0].id = id })
	}
	for id, ok := range map[int64]bool{-5: false, 0: false, 2: false, 3: false, 4: true, 5: true, 69: true, 70: false, 71: false, top: false} {
		just(t, "the second session's number", ok, func(m *image) { (*m)[1].id = id })
	}
	for id, ok := range map[int64]bool{69: false, 70: false, 71: true, top - 1: true, top: true, top + 1: false, math.MaxInt64: false} {
		just(t, "the last session's number", ok, func(m *image) { (*m)[3].id = id })
	}
	for high, ok := range map[int64]bool{-1: false, 0: false, 13: false, 19: false, 20: true, 21: false, 22: false, top: false, math.MinInt64: false, math.MaxInt64: false} {
		just(t, "the highest", ok, func(m *image) { (*m)[0].highest = high })
	}
	for high, ok := range map[int64]bool{-1: false, 0: false, 1: true, 2: true, 8: true, 9: true, 1 << 33: true, top: true, top + 1: false, math.MaxInt64: false, math.MinInt64: false} {
		just(t, "the highest and the only one kept", ok, func(m *image) { (*m)[1].highest, (*m)[1].kept[0].seq = high, high })
	}
	for seq, ok := range map[int64]bool{-1: false, 0: false, 1: false, 11: false, 12: false, 13: true, 14: false, 15: false, 20: false, 21: false} {
		just(t, "the first one kept", ok, func(m *image) { (*m)[0].kept[0].seq = seq })
	}
	for seq, ok := range map[int64]bool{-1: false, 12: false, 13: false, 14: true, 15: true, 19: true, 20: false, 21: false} {
		just(t, "one in the middle", ok, func(m *image) { (*m)[0].kept[1].seq = seq })
	}
	for seq, ok := range map[int64]bool{13: false, 14: false, 15: false, 19: false, 20: true, 21: false, 28: false} {
		just(t, "the last one kept", ok, func(m *image) { (*m)[0].kept[2].seq = seq })
	}
	for seq, ok := range map[int64]bool{math.MinInt64: false, -7: false, -1: false, 0: false, 1: true, 2: false} {
		just(t, "the first one of a low window", ok, func(m *image) { (*m)[2].kept[0].seq = seq })
	}
	just(t, "a low window, with 0", false, func(m *image) {
		*m = image{{1, 3, []item{{0, 0, 0}, {3, 0, 0}}}}
	})
	just(t, "a low window, with 1", true, func(m *image) {
		*m = image{{1, 3, []item{{1, 0, 0}, {3, 0, 0}}}}
	})
	for code, ok := range map[int64]bool{-1: false, 0: true, 1: true, 999: true, 1000: false, 1 << 32: false, 1<<32 + 5: false, -1 << 32: false, math.MaxInt64: false, math.MinInt64: false} {
		for i := range 3 {
			just(t, "a Code", ok, func(m *image) { (*m)[0].kept[i].code = code })
		}
	}
	for num, ok := range map[int64]bool{-1: false, 0: true, 1: true, 1 << 32: true, top - 1: true, top: true, top + 1: false, math.MaxInt64: false, math.MinInt64: false} {
		for i := range 3 {
			just(t, "a Num", ok, func(m *image) { (*m)[0].kept[i].num = num })
		}
	}
	just(t, "the highest isn't kept", false, func(m *image) { (*m)[0].kept = (*m)[0].kept[:2] })
	just(t, "the highest alone", true, func(m *image) { (*m)[0].kept = (*m)[0].kept[2:] })
	just(t, "nothing is kept", false, func(m *image) { (*m)[0].kept = nil })
	just(t, "nothing is kept of the last one", false, func(m *image) { (*m)[3].kept = nil })
	just(t, "nine are kept", false, func(m *image) { (*m)[2].highest, (*m)[2].kept = 9, append((*m)[2].kept, item{9, 0, 9}) })
	just(t, "sessions fall", false, func(m *image) { (*m)[0], (*m)[1] = (*m)[1], (*m)[0] })
	just(t, "no sessions", true, func(m *image) { *m = nil })
	just(t, "two of the same", false, func(m *image) { *m = slices.Insert(*m, 1, (*m)[0]) })
}

// P13.1, P13.3: how many sessions there may be, and what the count says.
func TestLoadCounts(t *testing.T) {
	for n, ok := range map[int64]bool{0: true, 1: true, 15: true, 16: true, 17: false, 20: false} {
		var m image
		for id := range n {
			m = append(m, session{id + 1, 1, []item{{1, 0, 0}}})
		}
		x := loads(t, n, m.bytes())
		if (x != nil) != ok {
			t.Errorf("%d sessions: %v", n, x != nil)
		}
		if n == 16 {
			x.must(t, 17, 1, api.ErrFull)
			x.puts(t, 16, 2)
		}
		if n == 15 {
			x.puts(t, 17, 1)
		}
	}
	one := nums(1, 1, 1, 1, 1, 0, 0)
	for i, b := range [][]byte{
		nums(0), one, // these two are right
		nil, {}, nums(0, 0), nums(-1), nums(17), nums(1), nums(1, 1), nums(1, 1, 1), nums(1, 1, 1, 0), nums(1, 1, 0, 0), nums(1, 0, 0, 0),
		nums(1, 1, 1, -1), nums(1, 1, 1, 9), nums(1, 1, 1, math.MaxInt64), nums(math.MaxInt64), nums(math.MinInt64), nums(1<<32 + 1),
		nums(1, 1, 1, 2, 1, 0, 0), nums(2, 1, 1, 1, 1, 0, 0), nums(0, 1, 1, 1, 1, 0, 0), nums(1, 1, 1, 1, 1, 0), nums(1, 1, 1, 1, 1, 0, 0, 0), nums(1, 1, 1, 1, 0, 0, 0), nums(1, 1, 1, 0, 1, 0, 0),
		{0x80, 0}, {0x82, 0, 2, 2, 2, 2, 0, 0}, append(slices.Clone(one[:len(one)-1]), 0x80, 0), // numbers in another form
	} {
		if x := loads(t, i, b); (x != nil) != (i < 2) {
			t.Errorf("Load(%v) takes it: %v", b, x != nil)
		}
	}
}

// P13.1: bytes that end early, that go on, and that are turned at any byte in any way.
func TestLoadTurnedBytes(t *testing.T) {
	whole := rich().bytes()
	for n := range whole {
		if loads(t, "cut", whole[:n]) != nil {
			t.Errorf("Load takes %d bytes of %d", n, len(whole))
		}
	}
	for x := range 256 {
		if loads(t, "longer", append(slices.Clone(whole), byte(x))) != nil {
			t.Errorf("Load takes %d behind all", x)
		}
	}
	taken := 0
	for i := range whole {
		for x := range 256 {
			b := slices.Clone(whole)
			b[i] = byte(x)
			if loads(t, "turned", b) != nil {
				taken++
			}
		}
		loads(t, "left away", slices.Delete(slices.Clone(whole), i, i+1))
		loads(t, "twice", slices.Insert(slices.Clone(whole), i, whole[i]))
	}
	if taken <= len(whole) {
		t.Errorf("%d alone were taken", taken)
	}
}

// P13.1: any bytes, and bytes of numbers that are nearly right.
func TestLoadAnyBytes(t *testing.T) {
	d := rand.New(rand.NewPCG(13, 13))
	for range 20000 {
		b := make([]byte, d.IntN(12))
		for i := range b {
			b[i] = byte(d.IntN(20))
		}
		loads(t, "any", b)
	}
	taken := 0
	for range 20000 {
		var ns []int64
		ns = append(ns, 1+d.Int64N(2))
		for id := range ns[0] {
			high := 1 + d.Int64N(12)
			n := 1 + d.Int64N(3)
			ns = append(ns, id+d.Int64N(3), high, n)
			for k := range n {
				ns = append(ns, high-n+k+1-d.Int64N(2)*d.Int64N(3), d.Int64N(3), d.Int64N(3))
			}
		}
		if loads(t, "nearly", nums(ns...)) != nil {
			taken++
		}
	}
	if taken < 1000 {
		t.Errorf("%d alone were taken", taken)
	}
	loads(t, "long", make([]byte, 1<<20))
}

// P13.3: every way to keep some of a window is loaded, and goes on as what it was loaded from.
func TestLoadEveryWindow(t *testing.T) {
	for high := int64(1); high <= 10; high++ {
		for which := range 1 << 7 {
			b := newBoth().puts(t, 3, high)
			for k := int64(1); k < 8 && high-k > 0; k++ {
				if which>>(k-1)&1 == 1 {
					b.puts(t, 3, high-k)
				}
			}
			x := b.loaded(t)
			x.around(t)
			for _, seq := range []int64{high - 3, high - 8, high, high + 1, high + 5} {
				v := of(3, seq+1)
				if e, want := x.put(t, 3, seq, v), b.put(t, 3, seq, v); e != want {
					t.Fatalf("Put(3, %d) = %d, of the loaded one %d", seq, want, e)
				}
			}
			x.around(t)
		}
	}
}
