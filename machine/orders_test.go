package machine_test

import (
	"bytes"
	"fmt"
	"math/rand/v2"
	"slices"
	"testing"

	"quillet/api"
	"quillet/cert"
	"quillet/machine"
	"quillet/serial"
	"quillet/sub"
)

// confs are of little, some and much room.
func confs() []cert.Conf {
	return []cert.Conf{{Keep: 1, Old: 0}, {Keep: 1, Old: 4}, {Keep: 2, Old: 9}, {Keep: 8, Old: 64}, {Keep: 32, Old: 64}, {Keep: 99, Old: 99}, {Keep: -3, Old: -3}}
}

// step is an entry but for its index, which is that far from the right one.
type step struct {
	off  int64
	kind int
	data []byte
}

// chosen are the steps of which every order is tried.
func chosen(t *testing.T) []step {
	t.Helper()
	steps := []step{{0, api.Noop, nil}, {0, api.Submit, []byte("noise")}, {0, api.Change, encoded(t, of(1, 1, 0, 1, 2))}, {1, api.Submit, encoded(t, of(1, 1, 0, 1, 2))}, {-1, api.Noop, nil}}
	for _, s := range []api.Sub{of(1, 1, 0, 1, 2), of(1, 1, 0, 2, 1), of(2, 1, 0, 2, 1), of(1, 2, 1, 1, 1), of(1, 9, 0, 0, 3), of(2, 9, 2, 3, 0), of(1, 10, 0, 0, 0)} {
		steps = append(steps, step{0, api.Submit, encoded(t, s)})
	}
	return steps
}

// P14.1, P14.3, P14.4: every order of up to four of the chosen steps, each as often as may be; one that is loaded answers the last one too.
func TestEveryOrder(t *testing.T) {
	for _, conf := range []cert.Conf{{Keep: 1, Old: 0}, {Keep: 1, Old: 2}, {Keep: 4, Old: 4}} {
		t.Run(fmt.Sprint(conf), func(t *testing.T) {
			t.Parallel()
			everyOrder(t, conf, nil)
		})
	}
}

func everyOrder(t *testing.T, conf cert.Conf, script []step) {
	for _, x := range chosen(t) {
		b := newBoth(conf)
		// What comes ahead of the last one was held against the words when it was the last one.
		for _, y := range script {
			e := b.next(y.kind, y.data)
			e.Index += y.off
			b.m.Apply(e)
			b.said.apply(e)
		}
		loaded := b.loaded(t)
		e := b.next(x.kind, x.data)
		e.Index += x.off
		b.apply(t, e)
		loaded.apply(t, e)
		if len(script) < 3 {
			everyOrder(t, conf, append(slices.Clone(script), x))
		} else {
			b.around(t)
		}
	}
}

// dice makes entries of few sessions and few keys, so that they meet; if they are heavy, most submissions have many keys.
type dice struct {
	*rand.Rand
	heavy bool
}

func (d dice) keys(most int) []float64 {
	var out []float64
	for range d.IntN(most + 1) {
		out = append(out, float64(d.IntN(12)))
	}
	return out
}

func (d dice) spans(most int) []api.Span {
	var out []api.Span
	for range d.IntN(most + 1) {
		lo := float64(d.IntN(12))
		out = append(out, api.Span{Lo: lo, Hi: lo + float64(d.IntN(3)), HiOpen: d.IntN(4) == 0})
	}
	return out
}

// great has as many keys as may be, nearly.
func (d dice) great(s *api.Sub) {
	at := float64(d.IntN(50))
	s.Reads, s.Writes, s.Spans = nil, nil, nil
	for i := range 16 {
		s.Reads = append(s.Reads, at+float64(3*i))
		s.Writes = append(s.Writes, at+float64(3*i+1))
	}
	for i := range d.IntN(9) {
		s.Spans = append(s.Spans, api.Span{Lo: at + float64(20*i), Hi: at + float64(20*i+1)})
	}
}

// sub is right, and mostly of a Snap and of a number that are near the last ones.
func (d dice) sub(t *testing.T, b *both, sessions int64) api.Sub {
	s := api.Sub{Session: 1 + d.Int64N(sessions), Reads: d.keys(2), Spans: d.spans(1), Writes: d.keys(2)}
	if d.heavy && d.IntN(9) > 0 {
		d.great(&s)
	}
	high := b.said.highest[s.Session]
	s.Seq = max(1, high-9+d.Int64N(14))
	if d.IntN(3) > 0 {
		s.Seq = high + 1
	}
	count := b.said.cert.Count()
	s.Snap = max(0, count-d.Int64N(4))
	if d.heavy {
		s.Snap = count
	}
	switch d.IntN(20) {
	case 0:
		s.Snap = count + 1
	case 1:
		s.Snap = d.Int64N(count + 1)
	}
	s, e := sub.Canon(s)
	if e != api.OK {
		t.Fatalf("%v: %d", s, e)
	}
	return s
}

// entry is mostly the next one, with a submission, at times one that was there already.
func (d dice) entry(t *testing.T, b *both, sessions int64, was []api.Entry) api.Entry {
	e := b.next(api.Submit, encoded(t, d.sub(t, b, sessions)))
	switch k := d.IntN(24); {
	case k == 0:
		e.Kind = d.IntN(4) - 1
	case k == 1:
		e.Data = e.Data[:d.IntN(len(e.Data))]
	case k == 2:
		e.Index += d.Int64N(5) - 2
	case k < 7 && len(was) > 0:
		e.Data = was[max(0, len(was)-1-d.IntN(9))].Data
	}
	return e
}

// P14.1 to P14.4, and P5: many entries; what was loaded goes on beside what it was loaded from, or in its place.
func TestManyEntries(t *testing.T) {
	seen, sizes := map[kind]int{}, map[int]int{}
	for seed := range 42 {
		d := dice{rand.New(rand.NewPCG(14, uint64(seed))), seed%3 == 0}
		conf := confs()[seed%len(confs())]
		b := newBoth(conf)
		other := newBoth(conf)
		decided := map[[2]int64]bool{}
		var was []api.Entry
		for range 150 {
			e := d.entry(t, b, []int64{2, 16, 17, 24}[seed%4], was)
			was = append(was, e)
			a, code := b.apply(t, e)
			if x, y := other.apply(t, e); x != a || y != code {
				t.Fatalf("%v: %v is answered %v, %d, and by the other one %v, %d", conf, e, a, code, x, y)
			}
			if !bytes.Equal(b.m.Bytes(), other.m.Bytes()) {
				t.Fatalf("%v: behind %v two have unlike bytes", conf, e)
			}
			at := [2]int64{a.Session, a.Seq}
			if a.Fresh && decided[at] {
				t.Fatalf("%v: %v is decided again: %v", conf, e, a)
			}
			decided[at] = decided[at] || a.Fresh
			seen[kind{code, a.Verdict.Code, a.Fresh}]++
			sizes[len(b.m.Bytes())/4096]++
			switch d.IntN(8) {
			case 0:
				other = b.loaded(t)
			case 1:
				other.done = slices.Clone(b.done)
				b, other = other, b
			case 2:
				b.around(t)
			}
		}
		b.serial(t)
	}
	for _, k := range kinds() {
		if seen[k] < 20 {
			t.Errorf("%v came %d times alone", k, seen[k])
		}
	}
	for full := range 3 {
		if sizes[full] < 20 {
			t.Errorf("bytes of %d full pieces came %d times alone", full, sizes[full])
		}
	}
}

// kind is what is answered to an entry, but for the numbers.
type kind struct {
	code, verdict api.Errno
	fresh         bool
}

// kinds are those that must have come; nothing at all is answered as OK, too.
func kinds() []kind {
	out := []kind{{api.ErrGap, api.OK, false}, {api.OK, api.ErrGone, false}, {api.OK, api.ErrFull, false}}
	for _, v := range []api.Errno{api.OK, api.ErrYoung, api.ErrOld, api.ErrWrite, api.ErrDanger} {
		out = append(out, kind{api.OK, v, true}, kind{api.OK, v, false})
	}
	return out
}

// serial asks of the first that have committed whether they could have been done one behind the other; layer 12 knows histories of at most 64.
func (b *both) serial(t *testing.T) {
	t.Helper()
	h := b.done[:min(64, len(b.done))]
	nums, ok := serial.Order(h)
	if !serial.Right(h) || !ok || !serial.Reads(h, nums) {
		t.Fatalf("%v: layer 12 has no order of %v: stuck are %v", b.conf, h, serial.Stuck(h))
	}
}

// P14.2: machines that are given the same entries, some with others between that don't follow, some by way of bytes, end alike.
func TestSameEntries(t *testing.T) {
	for _, conf := range confs() {
		d := dice{rand.New(rand.NewPCG(142, 14)), conf.Old > 9}
		b := newBoth(conf)
		bare, gaps, moved := machine.New(conf), machine.New(conf), machine.New(conf)
		for i := range 120 {
			e := b.next(api.Submit, encoded(t, d.sub(t, b, 18)))
			a, _ := b.apply(t, e)
			x, _ := bare.Apply(e)
			gaps.Apply(api.Entry{Index: e.Index + 1 + d.Int64N(3), Kind: api.Submit, Data: encoded(t, of(99, 1, 0, 1, 1))})
			y, _ := gaps.Apply(e)
			gaps.Apply(e)
			z, _ := moved.Apply(e)
			if x != a || y != a || z != a {
				t.Fatalf("%v: entry %d is answered %v, %v, %v, %v", conf, i, a, x, y, z)
			}
			var code api.Errno
			if moved, code = machine.Load(conf, moved.Index(), moved.Bytes()); code != api.OK {
				t.Fatalf("%v: Load = %d", conf, code)
			}
		}
		for i, m := range []*machine.Machine{bare, gaps, moved} {
			if !bytes.Equal(m.Bytes(), b.m.Bytes()) || m.Index() != b.m.Index() {
				t.Errorf("%v: the machine %d ends otherwise", conf, i)
			}
		}
	}
}
