package conf_test

import (
	"bytes"
	"math"
	"math/rand/v2"
	"slices"
	"testing"

	"quillet/api"
	"quillet/conf"
)

// P15.1: the form of the bytes, written out once.
func TestBytesForm(t *testing.T) {
	for want, c := range map[string]api.Conf{
		"\x06\x02\x04\x06\x02\x0a":             of([]int{1, 2, 3}, 5),
		"\x02\x0e\x00":                         of([]int{7}),
		"\x02\x08\x0c\x02\x04\x06\x0a\x0c\x0e": of([]int{4}, 1, 2, 3, 5, 6, 7),
		"\x0e\x02\x04\x06\x08\x0a\x0c\x0e\x00": of([]int{1, 2, 3, 4, 5, 6, 7}),
	} {
		if b, code := conf.Bytes(c); code != api.OK || string(b) != want {
			t.Errorf("Bytes(%v) = %q, %d", c, b, code)
		}
		if got, code := conf.Load([]byte(want)); code != api.OK || !same(got, c) {
			t.Errorf("Load(%q) = %v, %d", want, got, code)
		}
	}
}

// P15.1 (and P3): every right one is loaded from its bytes; no two have the same ones.
func TestEveryRightIsLoaded(t *testing.T) {
	all := byForm()
	if len(all) != 2059 {
		t.Fatalf("%d forms", len(all))
	}
	for _, c := range everyRight() {
		b, code := conf.Bytes(c)
		if code != api.OK || !loads(t, all, b) || !same(all[string(b)], c) {
			t.Fatalf("Bytes(%v) = %v, %d", c, b, code)
		}
	}
}

// P15.1: every bytes of up to six that have few values.
func TestEveryShortBytes(t *testing.T) {
	all := byForm()
	taken := 0
	var grow func(b []byte)
	grow = func(b []byte) {
		if loads(t, all, b) {
			taken++
		}
		if len(b) < 6 {
			for _, x := range []byte{0, 1, 2, 3, 4, 6, 14, 16, 128} {
				grow(append(slices.Clone(b), x))
			}
		}
	}
	grow(nil)
	if taken < 20 {
		t.Errorf("%d alone were taken", taken)
	}
}

// P15.1: bytes that end early, that go on, and that are turned at any byte in any way.
func TestLoadTurnedBytes(t *testing.T) {
	all := byForm()
	taken := 0
	for _, c := range []api.Conf{of([]int{1, 2, 3}, 5), of([]int{4}, 1, 2, 7), of([]int{1, 2, 3, 4, 5, 6, 7})} {
		good := form(c)
		for n := range good {
			if loads(t, all, good[:n]) {
				t.Errorf("Load takes %v", good[:n])
			}
		}
		for x := range 256 {
			if loads(t, all, append(slices.Clone(good), byte(x))) {
				t.Errorf("Load takes %d behind all", x)
			}
		}
		for i := range good {
			for x := range 256 {
				turned := slices.Clone(good)
				if turned[i] = byte(x); loads(t, all, turned) {
					taken++
				}
			}
			loads(t, all, slices.Delete(slices.Clone(good), i, i+1))
			loads(t, all, slices.Insert(slices.Clone(good), i, good[i]))
		}
	}
	if taken < 30 {
		t.Errorf("%d alone were taken", taken)
	}
}

// P15.1: numbers that aren't right, and those of another form.
func TestLoadRefuses(t *testing.T) {
	all := byForm()
	long := func(n int64) []int64 {
		out := []int64{n}
		for i := range n {
			out = append(out, i+1)
		}
		return append(out, 0)
	}
	for _, b := range [][]byte{
		nil, {}, nums(0), nums(0, 0), nums(0, 1, 1), nums(1), nums(1, 1), nums(1, 1, 1), nums(1, 1, 0, 0), nums(-1), nums(-1, 0), nums(1, 1, -1),
		nums(1, 0, 0), nums(1, -1, 0), nums(1, 8, 0), nums(1, 1<<32+1, 0), nums(1<<32+1, 1, 0), nums(1, math.MaxInt64, 0), nums(math.MaxInt64, 1, 0), nums(math.MinInt64, 1, 0),
		nums(2, 1, 1, 0), nums(2, 2, 1, 0), nums(1, 1, 1, 1), nums(1, 1, 2, 3, 2), nums(1, 1, 2, 2, 2), nums(1, 1, 1, 0), nums(1, 1, 1, 8), nums(1, 1, 1<<32),
		nums(long(8)...), nums(long(9)...), nums(append([]int64{1, 1}, long(8)...)...),
		{0x82, 0, 2, 0}, {2, 0x82, 0, 0}, {2, 2, 0x80, 0}, // right numbers, in another form
		bytes.Repeat([]byte{0x80}, 2048), make([]byte, 1<<20), bytes.Repeat([]byte{2}, 1<<20),
	} {
		if loads(t, all, b) {
			t.Errorf("Load takes %v", b)
		}
	}
	if !loads(t, all, nums(long(7)...)) || !loads(t, all, nums(1, 1, 6, 2, 3, 4, 5, 6, 7)) {
		t.Error("Load doesn't take seven")
	}
}

// P15.1: any bytes, and bytes of numbers that are nearly right.
func TestLoadAnyBytes(t *testing.T) {
	all := byForm()
	every := everyRight()
	d := rand.New(rand.NewPCG(15, 2))
	taken := 0
	for range 50000 {
		b := make([]byte, d.IntN(12))
		for i := range b {
			b[i] = byte(d.IntN(18))
		}
		loads(t, all, b)
		c := copied(every[d.IntN(len(every))])
		if k := d.IntN(len(c.Voters)); d.IntN(2) == 0 {
			c.Voters[k] += d.IntN(3) - 1
		}
		if k := len(c.Learners); k > 0 && d.IntN(2) == 0 {
			c.Learners[d.IntN(k)] += d.IntN(3) - 1
		}
		if loads(t, all, form(c)) {
			taken++
		}
	}
	if taken < 10000 || taken > 40000 {
		t.Errorf("%d were taken", taken)
	}
}
