package cert_test

import (
	"slices"
	"testing"

	"quillet/api"
	"quillet/cert"
)

// slim keeps one whole: all others are in the summary.
var slim = cert.Conf{Keep: 1, Old: 9}

// P11.1: the one that goes into the summary is the eldest, with all that it has read and written.
func TestEldestGoes(t *testing.T) {
	b := newBoth(cert.Conf{Keep: 2, Old: 9}).commits(t,
		on(0, w(1, 2)),
		on(0, r(1, 7), w(3), sp(shut(8, 9))),
	)
	if m := b.said.image(); len(m.tables[0])+len(m.tables[1])+len(m.tables[2])+len(m.spans) != 0 {
		t.Fatalf("there is a summary: %v", m)
	}
	b.commits(t, on(2), on(3))
	want := image{
		count:  4,
		recent: []piece{plain(on(2)), plain(on(3))},
		tables: [3][]entry{{at(1, 1), at(2, 1), at(3, 2)}, {at(3, 2)}, {at(1, 2), at(7, 2)}},
		spans:  []entry{over(8, 9, 2)},
	}
	if got := b.cert.Bytes(); !slices.Equal(got, want.bytes()) {
		t.Errorf("the bytes are %v, not %v", got, want.bytes())
	}
}

// P11.1: a key and a span have the greatest number, the mark its own.
func TestGreatestStay(t *testing.T) {
	b := newBoth(slim).commits(t,
		on(0, w(1)),
		on(0, r(1), w(2), sp(shut(5, 6))), // the mark
		on(2, r(1), w(2), sp(shut(5, 6))),
		on(3, sp(shut(5, 7))),
		on(4),
	)
	want := image{
		count:  5,
		recent: []piece{plain(on(4))},
		tables: [3][]entry{{at(1, 1), at(2, 3)}, {at(2, 2)}, {at(1, 3)}},
		spans:  []entry{over(5, 6, 3), over(5, 7, 4)},
	}
	if got := b.cert.Bytes(); !slices.Equal(got, want.bytes()) {
		t.Fatalf("the bytes are %v, not %v", got, want.bytes())
	}
	b.would(t, on(1, r(2)), danger)
	b.would(t, on(2, r(2)), 6)
	b.would(t, on(2, w(2)), clash)
	b.would(t, on(3, r(2), w(2)), 6)
	b.would(t, on(2, r(2), w(1)), danger)
	b.would(t, on(2, r(2), w(5)), danger)
	b.would(t, on(2, r(2), w(7)), danger)
	b.would(t, on(2, r(2), w(8)), 6)
}

// P11.1: the mark in the summary; a read by Reads and by Spans.
func TestMarkOfTheSummary(t *testing.T) {
	for name, second := range map[string]api.Sub{"Reads": on(0, r(1), w(2, 3)), "Spans": on(0, w(2, 3), sp(shut(0, 1.5)))} {
		b := newBoth(slim).commits(t, on(0, w(1)), second, on(2))
		if len(b.said.tables[1]) != 2 {
			t.Fatalf("%s: no mark", name)
		}
		for snap := range int64(2) {
			for _, p := range []part{r(2), r(3), r(0, 3), sp(shut(2, 2)), sp(shut(2.5, 3)), sp(shut(3, 4)), sp(shut(-inf, inf))} {
				b.would(t, on(snap, p), danger)
				b.would(t, on(snap, p, w(8)), danger)
			}
			for _, p := range []part{r(4), r(down(2), up(3)), sp(shut(up(2), down(3))), sp(shut(up(3), 9)), w(4)} {
				b.would(t, on(snap, p), 4)
			}
		}
		for snap := int64(2); snap < 4; snap++ {
			b.would(t, on(snap, r(2), w(3)), 4)
		}
	}
}

// P11.1: one that comes ahead of some of the summary gets the mark, whether those had it or not; others don't.
func TestMarkByTheSummary(t *testing.T) {
	b := newBoth(cert.Conf{Keep: 2, Old: 9}).commits(t, on(0, r(8), w(1)), on(1), on(2))
	for _, c := range []struct {
		s   api.Sub
		out bool
	}{
		{on(0, r(1), w(2)), true},
		{on(0, w(2), sp(shut(1, 1.5))), true},
		{on(0, w(2), sp(shut(up(1), 1.5))), false},
		{on(1, r(1), w(2)), false},
		{on(0, r(8), w(2)), false},
		{on(0, w(2, 8)), false},
		{on(0, r(5), w(2)), false},
	} {
		x := b.loaded(t)
		x.must(t, c.s, 4)
		if x.said.recent[1].out != c.out {
			t.Fatalf("%v: the mark is %v", c.s, !c.out)
		}
		v := int64(5)
		if c.out {
			v = danger
		}
		x.would(t, on(3, r(2)), v)
		x.commits(t, on(4), on(5))
		if v > 0 {
			v = 7
		}
		x.would(t, on(3, r(2)), v)
	}
}

// P11.1: V and U of the summary: V's number is the one behind Snap, U's the greatest.
func TestDangerOfTheSummary(t *testing.T) {
	// Numbers 1 to 6; 3 writes 30, 4 reads 40 and 5 reads [50, 59]; the last one is recent.
	b := newBoth(slim).commits(t, on(0), on(1), on(2, w(30)), on(3, r(40)), on(4, sp(shut(50, 59))), on(5))
	for snap := range int64(7) {
		writer, reader, ranger := snap < 3, snap < 4, snap < 5
		v := func(of, before bool) int64 {
			if of && before {
				return danger
			}
			return 7
		}
		for _, p := range []part{r(30), sp(shut(30, 30)), sp(shut(29, 30)), sp(shut(30, 31)), r(-1, 30, 99)} {
			b.would(t, on(snap, p, w(40)), v(writer, reader))
			b.would(t, on(snap, p, w(50)), v(writer, ranger))
			b.would(t, on(snap, p, w(59)), v(writer, ranger))
			b.would(t, on(snap, p, w(1, 41, 55)), v(writer, ranger))
			b.would(t, on(snap, p, w(41, down(50), up(59))), 7)
			b.would(t, on(snap, p), 7)
		}
		b.would(t, on(snap, w(40, 50)), 7)
	}
	// The reader is ahead of the writer, but V's number is the one behind Snap, at which U's is.
	b = newBoth(slim).commits(t, on(0, r(40)), on(1, w(30)), on(2))
	b.would(t, on(0, r(30), w(40)), danger)
	b.would(t, on(1, r(30), w(40)), 4)
	b = newBoth(slim).commits(t, on(0, sp(shut(40, 41))), on(1, w(30)), on(2))
	b.would(t, on(0, r(30), w(41)), danger)
	b.would(t, on(1, r(30), w(41)), 4)
	// The same of the recent ones is no danger.
	b = newBoth(roomy).commits(t, on(0, r(40)), on(1, w(30)), on(2))
	b.would(t, on(0, r(30), w(40)), 4)
}

// P11.1: V of the summary and U of the recent ones, and the other way round.
func TestDangerOfEach(t *testing.T) {
	two := cert.Conf{Keep: 2, Old: 9}
	// V of the summary, U recent: V's number is below.
	b := newBoth(two).commits(t, on(0), on(1, w(30)), on(2, r(40)), on(3))
	for snap := range int64(5) {
		v := int64(5)
		if snap < 2 {
			v = danger
		}
		b.would(t, on(snap, r(30), w(40)), v)
	}
	// U of the summary, V recent: V's number is above.
	b = newBoth(two).commits(t, on(0), on(1, r(40), sp(shut(50, 59))), on(2, w(30)), on(3))
	for snap := range int64(5) {
		b.would(t, on(snap, r(30), w(40)), 5)
		b.would(t, on(snap, r(30), w(55)), 5)
	}
	// V in both, U of the summary: V is the lesser one, of the summary.
	b = newBoth(two).commits(t, on(0, w(31)), on(1, r(40)), on(2, w(30)), on(3))
	b.would(t, on(0, r(30, 31), w(40)), danger)
	b.would(t, on(0, r(30), w(40)), 5)
	b.would(t, on(1, r(30, 31), w(40)), 5)
	// U in both, V recent: U is the greater one, the recent one.
	b = newBoth(two).commits(t, on(0, r(40)), on(1), on(2, w(30)), on(3, r(41)))
	b.would(t, on(0, r(30), w(40)), 5)
	b.would(t, on(0, r(30), w(40, 41)), danger)
	b.would(t, on(0, r(30), w(41)), danger)
	b.would(t, on(3, r(30), w(40, 41)), 5)
	// U in both, V recent and between them.
	b = newBoth(two).commits(t, on(0, r(40), sp(shut(42, 43))), on(1), on(2, r(41), w(30)), on(3))
	b.would(t, on(0, r(30), w(40, 41)), danger)
	b.would(t, on(0, r(30), w(40, 42)), 5)
}

// P11.1: keys of the summary that were written by one beside it, and by one that isn't; of recent ones too.
func TestWrittenOfEach(t *testing.T) {
	b := newBoth(cert.Conf{Keep: 2, Old: 9}).commits(t, on(0, w(1)), on(1, w(2)), on(2, w(3)), on(3, w(4)))
	for snap := range int64(5) {
		for key := range int64(6) {
			v := int64(5)
			if key > snap && key < 5 {
				v = clash
			}
			b.would(t, on(snap, w(float64(key))), v)
		}
	}
}

// fill is a Cert of which all tables of the summary have two keys, of two that there may be; 3 is recent.
func fill(t *testing.T) *both {
	return loadBoth(t, cert.Conf{Keep: 1, Old: 2}, image{
		count:  3,
		recent: []piece{plain(on(2))},
		tables: [3][]entry{{at(1, 1), at(2, 2)}, {at(3, 1), at(4, 2)}, {at(5, 1), at(6, 2)}},
		spans:  []entry{over(7, 8, 1), over(9, 9, 2)},
	})
}

// P11.1: just room and just no room, in each table.
func TestRoom(t *testing.T) {
	for name, c := range map[string]struct {
		s    api.Sub
		room bool
	}{
		"nothing":                    {on(3), true},
		"keys that are there":        {on(3, r(5, 6), w(1, 2), sp(shut(7, 8), shut(9, 9))), true},
		"one of each":                {on(3, r(6), w(1), sp(shut(9, 9))), true},
		"one more writer":            {on(3, w(3)), false},
		"one more writer among them": {on(3, w(1, 2, 3)), false},
		"one more reader":            {on(3, r(1)), false},
		"one more reader, the last":  {on(3, r(5, 6, 7)), false},
		"one more span":              {on(3, sp(shut(7, 9))), false},
		"the same Lo":                {on(3, sp(shut(7, 7.5), shut(9, 9))), false},
		"the same Hi":                {on(3, sp(shut(6, 8))), false},
		"a third span":               {on(3, sp(shut(7, 8), shut(9, 9), shut(11, 12))), false},
	} {
		b := fill(t)
		b.commits(t, c.s)
		if b.cert.Horizon() != 0 {
			t.Fatalf("%s: the horizon is %d ahead of its going", name, b.cert.Horizon())
		}
		b.commits(t, on(4))
		emptied(t, name, b, c.room, 4)
	}
}

// emptied asks for what comes of it that there was room or none for a transaction, when it went into the summary of fill.
func emptied(t *testing.T, name string, b *both, room bool, n int64) {
	t.Helper()
	if room {
		if b.cert.Horizon() != 0 || len(b.said.tables[0]) != 2 {
			t.Fatalf("%s: the horizon is %d", name, b.cert.Horizon())
		}
		b.would(t, on(1, w(2)), clash)
		return
	}
	want := image{count: b.said.count, horizon: n, recent: b.said.image().recent}
	if b.cert.Horizon() != n || !slices.Equal(b.cert.Bytes(), want.bytes()) {
		t.Fatalf("%s: the horizon is %d, the bytes %v", name, b.cert.Horizon(), b.cert.Bytes())
	}
	b.would(t, on(n-1), old)
	b.would(t, on(n, r(1, 2, 3, 4), w(1, 2, 5, 6, 7, 9)), b.said.count+1)
}

// P11.1: just room and just no room among those with the mark alone. By itself a Cert doesn't come there: who has the mark is a writer too.
func TestRoomOfMarks(t *testing.T) {
	for name, c := range map[string]struct {
		s       api.Sub
		horizon int64
	}{
		"a key that is there":         {on(2, r(1), w(3)), 0},
		"a key that isn't":            {on(2, r(1), w(6)), 4},
		"the same, without the mark":  {on(3, r(1), w(6)), 0},
		"a writer that has no mark":   {on(3, w(1)), 0},
		"the mark, and writes no key": {on(2, r(1)), 0},
	} {
		b := loadBoth(t, cert.Conf{Keep: 1, Old: 2}, image{
			count:  3,
			recent: []piece{plain(on(2, w(1)))},
			tables: [3][]entry{{at(1, 1)}, {at(3, 1), at(4, 2)}},
		})
		b.commits(t, c.s, on(4))
		if b.cert.Horizon() != c.horizon {
			t.Errorf("%s: the horizon is %d", name, b.cert.Horizon())
		}
	}
}

// P11.1: keys that a Cert has marked by itself; they are writers' too.
func TestMarksFillUp(t *testing.T) {
	b := newBoth(cert.Conf{Keep: 1, Old: 3}).commits(t, on(0, w(1)))
	// Each second one reads what the one ahead of it, beside it, has written.
	for n := int64(1); n < 7; n += 2 {
		b.commits(t, on(n-1, r(1), w(float64(2+n%4))), on(n+1, w(1)))
		if b.cert.Horizon() != 0 {
			t.Fatalf("%d have committed: the horizon is %d", n+2, b.cert.Horizon())
		}
	}
	if got := b.said.tables[1]; len(got) != 2 || got[3] == 0 || got[5] == 0 {
		t.Fatalf("with the mark: %v", got)
	}
	b.commits(t, on(6, r(1), w(4)), on(8))
	if b.cert.Horizon() != 8 {
		t.Errorf("the horizon is %d", b.cert.Horizon())
	}
}

// P11.1: without any room, whatever has read or written moves the horizon; what hasn't does not.
func TestNoRoomAtAll(t *testing.T) {
	for _, most := range []int{0, -1} {
		b := newBoth(cert.Conf{Keep: 1, Old: most})
		horizons := []int64{0, 0, 0, 3, 3, 5, 6, 6, 6}
		for i, s := range []api.Sub{on(0), on(1), on(2, w(1)), on(3), on(4, r(1)), on(5, sp(shut(1, 1))), on(6), on(7), on(8)} {
			b.commits(t, s)
			if b.cert.Horizon() != horizons[i] {
				t.Fatalf("Old %d, %d: the horizon is %d", most, i+1, b.cert.Horizon())
			}
		}
	}
}

// P11.1: what goes at once is more than there is room for in an empty summary, or just as much.
func TestRoomForTheGreatest(t *testing.T) {
	var spans []api.Span
	for i := range 8 {
		spans = append(spans, shut(float64(2*i), float64(2*i+1)))
	}
	full := on(0, r(upTo(0, 16)...), w(upTo(0, 16)...), sp(spans...))
	for most, horizon := range map[int]int64{0: 1, 1: 1, 7: 1, 8: 1, 15: 1, 16: 0, 17: 0, 64: 0} {
		b := newBoth(cert.Conf{Keep: 1, Old: most}).commits(t, full, on(1))
		if b.cert.Horizon() != horizon {
			t.Errorf("Old %d: the horizon is %d", most, b.cert.Horizon())
		}
	}
	for most, horizon := range map[int]int64{0: 1, 1: 1, 7: 1, 8: 0, 9: 0} {
		b := newBoth(cert.Conf{Keep: 1, Old: most}).commits(t, on(0, sp(spans...)), on(1))
		if b.cert.Horizon() != horizon {
			t.Errorf("Old %d, spans: the horizon is %d", most, b.cert.Horizon())
		}
	}
}

// P11.1: emptied, a summary is filled again, and emptied again.
func TestFilledAgain(t *testing.T) {
	b := newBoth(cert.Conf{Keep: 2, Old: 3})
	for n := range int64(40) {
		key := float64(n)
		b.commits(t, on(n, w(key)))
		if want := max(0, (n-1)/4*4); b.cert.Horizon() != want {
			t.Fatalf("%d have committed: the horizon is %d, not %d", n+1, b.cert.Horizon(), want)
		}
	}
}
