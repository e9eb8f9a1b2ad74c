package machine_test

import (
	"bytes"
	"slices"
	"testing"

	"quillet/api"
	"quillet/machine"
)

// spoil writes over bytes, their spare room too.
func spoil(b []byte) {
	b = b[:cap(b)]
	for i := range b {
		b[i] = 0x77
	}
}

// ones are submissions of every kind: they commit, go into the summary, are refused, come twice, and are gone.
func ones() []api.Sub {
	return []api.Sub{
		of(1, 1, 0, 1, 2), of(2, 1, 0, 2, 1), of(1, 1, 0, 5, 5), of(1, 2, 9, 3, 3), of(2, 9, 1, 4, 4),
		{Session: 2, Seq: 10, Snap: 1, Reads: []float64{6, 7}, Spans: []api.Span{{Lo: 8, Hi: 9}, {Lo: 11, Hi: 12}}, Writes: []float64{10, 11}},
		of(2, 1, 0, 2, 1), of(1, 3, 2, 10, 8), of(3, 1, 3, 11, 11), of(1, 40, 0, 0, 20), of(1, 4, 4, 11, 8),
	}
}

// P14.5: an entry's Data aren't changed, and may be written over behind the call.
func TestArgumentsAreNotKept(t *testing.T) {
	for _, conf := range confs() {
		b := newBoth(conf)
		for _, s := range ones() {
			data := encoded(t, s)
			back := append(slices.Clone(data), 55, 56, 57)
			was := slices.Clone(back)
			a, e := b.m.Apply(b.next(api.Submit, back[:len(data)]))
			if !bytes.Equal(back, was) {
				t.Fatalf("%v: Apply(%v) has changed it", conf, s)
			}
			spoil(back)
			if want, code := b.said.apply(b.next(api.Submit, data)); a != want || e != code {
				t.Fatalf("%v: Apply(%v) = %v, %d, not %v, %d", conf, s, a, e, want, code)
			}
			b.told(t, s)
		}
		// What is kept is asked for by what comes later, too.
		for i, s := range ones() {
			s.Session, s.Seq = 7, int64(i+1)
			b.takes(t, api.Submit, encoded(t, s))
		}
		b.around(t)
	}
}

// P14.5: what Bytes answers may be written over: neither the Machine nor another answer changes; what was answered stays.
func TestAnswersAreNew(t *testing.T) {
	for _, conf := range confs() {
		b := newBoth(conf)
		for _, s := range ones() {
			first, second := b.m.Bytes(), b.m.Bytes()
			spoil(first)
			want := b.said.bytes()
			b.told(t, "bytes are written over")
			b.takes(t, api.Submit, encoded(t, s))
			if !bytes.Equal(second, want) {
				t.Fatalf("%v: %v changes what was answered, or two answers share", conf, s)
			}
		}
		b.around(t)
	}
}

// P14.5: bytes that are loaded are neither changed nor kept; two that are loaded of the same share nothing.
func TestLoadedBytesAreNotKept(t *testing.T) {
	from := rich(t)
	good := from.m.Bytes()
	back := append(slices.Clone(good), 55, 56)
	x, e := machine.Load(from.conf, 6, back[:len(good)])
	y, _ := machine.Load(from.conf, 6, back[:len(good)])
	if e != api.OK || !bytes.Equal(back, append(slices.Clone(good), 55, 56)) {
		t.Fatalf("Load = %d, and leaves %v", e, back)
	}
	spoil(back)
	first := &both{conf: from.conf, m: x, said: saidLoad(from.conf, 6, good)}
	second := &both{conf: from.conf, m: y, said: saidLoad(from.conf, 6, good)}
	first.told(t, "the bytes are written over")
	for i, s := range ones() {
		s.Session, s.Seq = 2, int64(i+3)
		first.takes(t, api.Submit, encoded(t, s))
	}
	first.around(t)
	second.told(t, "another one goes on")
	second.around(t)
	from.told(t, "others go on")
}

// P14.5: a submission that is refused for its form leaves its bytes alone, too.
func TestRefusedArgumentsStay(t *testing.T) {
	b := rich(t)
	data := encoded(t, of(1, 1, 0, 1, 2))
	for n := range len(data) + 1 {
		for _, e := range []api.Entry{b.next(api.Submit, data[:n]), b.next(api.Change, data[:n]), {Index: 99, Kind: api.Submit, Data: data[:n]}} {
			e.Index = max(e.Index, b.m.Index()+1)
			b.apply(t, e)
			if !bytes.Equal(data, encoded(t, of(1, 1, 0, 1, 2))) {
				t.Fatalf("Apply(%v) has changed it", e)
			}
		}
	}
	good := b.m.Bytes()
	for i := range good {
		bad := slices.Clone(good)
		bad[i] ^= 0x80
		was := slices.Clone(bad)
		for _, index := range []int64{-1, 6} {
			machine.Load(b.conf, index, bad[:i])
			machine.Load(b.conf, index, bad)
			if !bytes.Equal(bad, was) {
				t.Fatalf("Load has changed bytes that are turned at %d", i)
			}
		}
	}
}
