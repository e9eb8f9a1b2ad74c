package machine_test

import (
	"fmt"
	"math"
	"math/rand/v2"
	"slices"
	"testing"

	"quillet/api"
	"quillet/cert"
	"quillet/machine"
)

// P14.1: the form of the bytes, written out once.
func TestBytesForm(t *testing.T) {
	b := newBoth(roomy)
	want := "\x02" + "\x0e" + "\x00\x00\x00\x00\x00\x00\x00" + // one piece of 7 bytes: layer 11's
		"\x02" + "\x02" + "\x00" // one of one: layer 13's
	if got := string(b.m.Bytes()); got != want {
		t.Errorf("the bytes are %q, not %q", got, want)
	}
	b.takes(t, api.Noop, nil)
	if got := string(b.m.Bytes()); got != want {
		t.Errorf("the bytes are %q, not %q: the index isn't in them", got, want)
	}
	b.fresh(t, of(3, 5, 0, 0, 1), 1).fresh(t, of(3, 6, 9, 0, 1), young)
	one := "\xbf\xf0\x00\x00\x00\x00\x00\x00"
	want = "\x02" + "\x2e" + "\x02\x00" + "\x02" + "\x00\x1c" + "\x06\x0a\x00\x00\x00\x02" + one + "\x00\x00\x00\x00" +
		"\x02" + "\x16" + "\x02" + "\x06\x0c\x04" + "\x0a\x00\x02" + "\x0c\xe2\x01\x00"
	if got := string(b.m.Bytes()); got != want {
		t.Errorf("the bytes are %q, not %q", got, want)
	}
}

// certOf is a Cert's bytes, just that many.
func certOf(t *testing.T, size int) []byte {
	t.Helper()
	c := cert.New(roomy)
	for over := size - len(c.Bytes()); over > 0; over = size - len(c.Bytes()) {
		next := over
		switch {
		case over > 365:
			next = 265
		case over > 265:
			next = over / 2
		}
		s := sized(next)
		s.Snap = c.Count()
		if c.Decide(s).Code != api.OK {
			t.Fatalf("%v doesn't commit", s)
		}
	}
	return c.Bytes()
}

// sized is a submission that has so many bytes more in a Cert's, from 73 to 265: 9 without any keys, 8 a key; the rest is in greater names.
func sized(size int) api.Sub {
	s := api.Sub{Session: 1, Seq: 1}
	for i := range (size - 9) / 8 {
		if i < 16 {
			s.Reads = append(s.Reads, float64(i))
		} else {
			s.Writes = append(s.Writes, float64(i))
		}
	}
	for i := range (size - 9) % 8 {
		if i < 5 {
			s.Session <<= 7
		} else {
			s.Seq <<= 7
		}
	}
	return s
}

// P14.1, P14.4: bytes of as many as fill their pieces, nearly fill them, or begin another one.
func TestPieces(t *testing.T) {
	asked := nums(1, 3, 5, 1, 5, 0, 7)
	for _, size := range []int{1000, 4000, 4095, 4096, 4097, 5000, 8191, 8192, 8193} {
		known := certOf(t, size)
		if len(known) != size {
			t.Fatalf("%d bytes, not %d", len(known), size)
		}
		p := whole(known)
		if want := (size + 4095) / 4096; len(p.pieces) != want {
			t.Fatalf("%d pieces, not %d", len(p.pieces), want)
		}
		x := loads(t, size, roomy, 9, halves{p, whole(asked)}.bytes())
		if x == nil {
			t.Fatalf("%d bytes aren't loaded", size)
		}
		x.fresh(t, of(3, 6, x.m.Count(), 1, 2), x.m.Count()+1)
		x.loaded(t)
		wrongPieces(t, known, asked)
	}
}

// wrongPieces asks of bytes that are cut otherwise than they should be.
func wrongPieces(t *testing.T, known, asked []byte) {
	t.Helper()
	n := len(known)
	right := whole(known)
	parts := map[string]part{
		"one fewer told":       {right.many - 1, right.pieces},
		"one more told":        {right.many + 1, right.pieces},
		"none told":            {0, right.pieces},
		"less than none":       {-1, right.pieces},
		"the most":             {math.MaxInt64, right.pieces},
		"the least":            {math.MinInt64, right.pieces},
		"as many, wrapped":     {right.many + 1<<32, right.pieces},
		"an empty one behind":  {right.many + 1, append(slices.Clone(right.pieces), nil)},
		"an empty one ahead":   {right.many + 1, append([][]byte{nil}, right.pieces...)},
		"the last one missing": {right.many - 1, right.pieces[:len(right.pieces)-1]},
		"the last one twice":   {right.many + 1, append(slices.Clone(right.pieces), right.pieces[len(right.pieces)-1])},
	}
	for _, at := range []int{1, n / 3, n / 2, n - 2, n - 1, 4000, 4095, 4097, 8191, 8193} {
		if at < n && at%4096 > 0 {
			parts[fmt.Sprint("cut at ", at)] = cutAt(known, at)
		}
	}
	if n > 4096 {
		parts["all of it in one"] = part{1, [][]byte{known}}
	}
	for name, p := range parts {
		if loads(t, name, roomy, 9, halves{p, whole(asked)}.bytes()) != nil {
			t.Errorf("%d bytes, %s: Load takes it", n, name)
		}
	}
}

// cutAt is bytes in two, of which neither may be too long, else in more; none is empty.
func cutAt(b []byte, at int) part {
	first, second := whole(b[:at]), whole(b[at:])
	return part{first.many + second.many, append(first.pieces, second.pieces...)}
}

// P14.1: layer 13's bytes are cut likewise.
func TestPiecesOfSessions(t *testing.T) {
	known, asked := nums(0, 0, 0, 0, 0, 0, 0), nums(1, 3, 5, 1, 5, 0, 7)
	for name, c := range map[string]struct {
		p  part
		ok bool
	}{
		"as they are":       {whole(asked), true},
		"in two":            {cutAt(asked, 3), false},
		"an empty one more": {part{2, [][]byte{asked, nil}}, false},
		"an empty one":      {part{1, [][]byte{nil}}, false},
		"no piece":          {part{0, nil}, false},
		"less than none":    {part{-1, nil}, false},
		"the most":          {part{math.MaxInt64, [][]byte{asked}}, false},
		"one that is told":  {part{1, nil}, false},
		"two that are told": {part{2, [][]byte{asked}}, false},
		"one behind":        {part{1, [][]byte{asked, asked}}, false},
		"no sessions":       {whole(nums(0)), true},
		"layer 11's":        {whole(known), false},
		"no Table's":        {whole(nums(1, 3, 5, 1, 4, 0, 7)), false},
		"too long":          {pieces(1, make([]byte, 4097), 4097), false},
		"full, and more":    {pieces(2, make([]byte, 4097), 4096, 1), false},
	} {
		if x := loads(t, name, roomy, 0, halves{whole(known), c.p}.bytes()); (x != nil) != c.ok {
			t.Errorf("%s: Load takes it: %v", name, x != nil)
		}
	}
	for name, known := range map[string][]byte{
		"nothing":      nil,
		"layer 13's":   asked,
		"no Cert's":    nums(0, 1, 0, 0, 0, 0, 0),
		"one too long": nums(0, 0, 0, 0, 0, 0, 0, 0),
		"one too few":  nums(0, 0, 0, 0, 0, 0),
	} {
		if loads(t, name, roomy, 0, halves{whole(known), whole(asked)}.bytes()) != nil {
			t.Errorf("layer 11's are %s: Load takes it", name)
		}
	}
	if loads(t, "the other way round", roomy, 0, halves{whole(asked), whole(known)}.bytes()) != nil {
		t.Error("Load takes them the other way round")
	}
	for _, b := range [][]byte{nil, {}, {0}, {0, 0}, {1}, {2}, {2, 0, 2, 0}, {0x80, 0}, nums(1, 1<<40), nums(1, -1), nums(1, 4097), make([]byte, 1<<20)} {
		if loads(t, "short", roomy, 0, b) != nil {
			t.Errorf("Load takes %v", b)
		}
	}
}

// P14.1: the index; it is asked for ahead of the bytes.
func TestLoadIndex(t *testing.T) {
	good := newBoth(roomy).fresh(t, of(1, 1, 0, 1, 2), 1).m.Bytes()
	for index, ok := range map[int64]bool{0: true, 1: true, 2: true, 1 << 33: true, top - 1: true, top: true, -1: false, top + 1: false, math.MaxInt64: false, math.MinInt64: false} {
		if ok {
			x := loads(t, index, roomy, index, good)
			if x == nil || x.m.Index() != index {
				t.Fatalf("the index %d isn't taken", index)
			}
			x.stale(t, of(1, 1, 0, 1, 2), 1)
			loads(t, index, roomy, index, good[1:])
			continue
		}
		for _, b := range [][]byte{good, good[1:], nil, {9}} {
			if m, e := machine.Load(roomy, index, b); m != nil || e != api.ErrArg {
				t.Errorf("Load(%d) = %v, %d", index, m, e)
			}
		}
	}
}

// P14.1, P14.4: what is loaded goes by the Conf that it is loaded with.
func TestLoadConf(t *testing.T) {
	b := newBoth(cert.Conf{Keep: 3, Old: 4})
	for i := range int64(6) {
		b.fresh(t, of(1, i+1, i, 0, float64(i+1)), i+1)
	}
	good := b.m.Bytes()
	for conf, ok := range map[cert.Conf]bool{{Keep: 3, Old: 3}: true, {Keep: 3, Old: 2}: false, {Keep: 2, Old: 4}: false, {Keep: 9, Old: 3}: true, {}: false, {Keep: 99, Old: 99}: true, {Keep: -1, Old: -1}: false} {
		x := loads(t, conf, conf, 6, good)
		if (x != nil) != ok {
			t.Errorf("%v: Load takes it: %v", conf, x != nil)
		}
		if x == nil {
			continue
		}
		for i := range int64(20) {
			x.fresh(t, of(1, 7+i, 6+i, 1, float64(i+10)), 7+i)
		}
	}
}

// rich is of a machine that has some of everything.
func rich(t *testing.T) *both {
	t.Helper()
	b := newBoth(cert.Conf{Keep: 2, Old: 9})
	b.fresh(t, of(1, 1, 0, 1, 2), 1)
	b.fresh(t, of(2, 5, 0, 2, 1), danger)
	b.fresh(t, api.Sub{Session: 70, Seq: 1, Snap: 1, Spans: []api.Span{{Lo: 3, Hi: 4}}, Writes: []float64{5}}, 2)
	b.fresh(t, of(1, 20, 1, 5, 6), 3)
	b.fresh(t, of(1, 14, 3, 7, 8), 4)
	b.fresh(t, of(top, top, 9, 7, 8), young)
	return b
}

// P14.1: bytes that end early, that go on, and that are turned at any byte in any way.
func TestLoadTurnedBytes(t *testing.T) {
	b := rich(t)
	good := b.m.Bytes()
	for n := range good {
		if loads(t, "cut", b.conf, 6, good[:n]) != nil {
			t.Errorf("Load takes %d bytes of %d", n, len(good))
		}
	}
	for x := range 256 {
		if loads(t, "longer", b.conf, 6, append(slices.Clone(good), byte(x))) != nil {
			t.Errorf("Load takes %d behind all", x)
		}
	}
	taken := 0
	for i := range good {
		for x := range 256 {
			turned := slices.Clone(good)
			turned[i] = byte(x)
			if loads(t, "turned", b.conf, 6, turned) != nil {
				taken++
			}
		}
		loads(t, "left away", b.conf, 6, slices.Delete(slices.Clone(good), i, i+1))
		loads(t, "twice", b.conf, 6, slices.Insert(slices.Clone(good), i, good[i]))
	}
	if taken <= len(good) {
		t.Errorf("%d alone were taken", taken)
	}
}

// P14.1: any bytes, and bytes of pieces that are nearly right.
func TestLoadAnyBytes(t *testing.T) {
	d := rand.New(rand.NewPCG(14, 141))
	for range 20000 {
		b := make([]byte, d.IntN(14))
		for i := range b {
			b[i] = byte(d.IntN(5))
		}
		loads(t, "any", roomy, 3, b)
	}
	known, asked := certOf(t, 8200), nums(1, 3, 5, 1, 5, 0, 7)
	taken := 0
	for range 3000 {
		p := whole(known)
		sizes := []int{4096 - d.IntN(2), 4096 - d.IntN(2)}
		sizes = append(sizes, len(known)-sizes[0]-sizes[1])
		if d.IntN(2) == 0 {
			p = pieces(3, known, sizes...)
		}
		p.many += d.Int64N(3) * d.Int64N(2)
		if d.IntN(4) == 0 {
			p.pieces = append(p.pieces, nil)
		}
		if loads(t, "nearly", roomy, 3, halves{p, whole(asked)}.bytes()) != nil {
			taken++
		}
	}
	if taken < 300 {
		t.Errorf("%d alone were taken", taken)
	}
}

// P14.4: sessions that are full, and a Cert that is, are loaded, and go on.
func TestLoadFull(t *testing.T) {
	b := newBoth(roomy)
	for i := range int64(128) {
		s := of(top-i%16, top-8+i/16, b.m.Count(), 0, 0)
		s.Seq++
		for k := range 16 {
			s.Reads = append(s.Reads, float64(k*4)+float64(i%4)+0.5)
			s.Writes = append(s.Writes, float64(k*4)+float64(i%4))
		}
		for k := range 8 {
			s.Spans = append(s.Spans, api.Span{Lo: float64(-100*k - 100), Hi: float64(-100*k - 90 + int(i%8))})
		}
		slices.Reverse(s.Spans)
		b.fresh(t, s, i+1)
	}
	if b.m.Horizon() != 0 || len(b.m.Bytes()) < 16384 {
		t.Errorf("the horizon is %d, of %d bytes", b.m.Horizon(), len(b.m.Bytes()))
	}
	x := b.loaded(t)
	for _, y := range []*both{b, x} {
		y.stale(t, of(1, 1, 0, 1, 1), full)
		y.stale(t, of(top, top-7, 0, 1, 1), 1)
		y.stale(t, of(top, top-8, 0, 1, 1), gone)
		y.around(t)
	}
}
