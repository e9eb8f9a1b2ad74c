package wal_test

import (
	"bytes"
	"encoding/binary"
	"math/rand/v2"
	"slices"
	"strings"
	"testing"

	"quillet/api"
	"quillet/disk"
	"quillet/wal"
)

// put makes files on both disks, all of them synced.
func (x *both) put(t *testing.T, files map[string][]byte) {
	t.Helper()
	for name, b := range files {
		for _, d := range []*disk.Disk{x.d, x.twin} {
			if d.Create(name) != api.OK || d.Write(name, 0, b) != api.OK || d.Sync(name) != api.OK {
				t.Fatalf("file %q of %d bytes can't be made", name, len(b))
			}
		}
	}
}

// laid is both with these files, opened; and opened again, with the power going at every step.
func laid(t *testing.T, files map[string][]byte) *both {
	t.Helper()
	for n := 1; ; n++ {
		x := newBoth()
		x.put(t, files)
		x.fail(n)
		if x.must(t, call{kind: "Open"}) == api.OK {
			break
		}
		x.crash(t, nil)
		x.ok(t, call{kind: "Open"})
	}
	x := newBoth()
	x.put(t, files)
	x.ok(t, call{kind: "Open"})
	es, names := x.w.Entries(), x.d.Names()
	for i, e := range es {
		if !isRight(e) || e.Index != es[0].Index+int64(i) {
			t.Fatalf("Open has %v", es)
		}
	}
	x.ok(t, call{kind: "Open"})
	if !slices.EqualFunc(x.w.Entries(), es, sameEntry) || !slices.Equal(x.d.Names(), names) {
		t.Fatalf("opened again: %v, %q; not %v, %q", x.w.Entries(), x.d.Names(), es, names)
	}
	return x
}

// has tells whether Open has just these indexes, of these files.
func (x *both) has(t *testing.T, what string, first, last int64, names ...string) {
	t.Helper()
	if x.w.First() != first || x.w.Last() != last || !slices.Equal(x.d.Names(), names) {
		t.Errorf("%s: %d to %d, %q; not %d to %d, %q", what, x.w.First(), x.w.Last(), x.d.Names(), first, last, names)
	}
}

// P6.1, P6.3: segments that follow, and segments that don't.
func TestOpenSegments(t *testing.T) {
	n5, n6, n7, n9 := nameFor(5), nameFor(6), nameFor(7), nameFor(9)
	two := fileOf(entries(5, 1, 40)...)
	for what, c := range map[string]struct {
		files       map[string][]byte
		first, last int64
		names       []string
	}{
		"none":                      {nil, 0, 0, nil},
		"one":                       {map[string][]byte{n5: two}, 5, 6, []string{n5}},
		"two":                       {map[string][]byte{n5: two, n7: fileOf(entries(7, 1, 1)...)}, 5, 8, []string{n5, n7}},
		"three":                     {map[string][]byte{n5: two, n7: fileOf(entries(7, 1, 1)...), n9: fileOf(entry(9, 3))}, 5, 9, []string{n5, n7, n9}},
		"a gap":                     {map[string][]byte{n5: two, nameFor(8): fileOf(entry(8, 1)), n9: fileOf(entry(9, 1))}, 5, 6, []string{n5}},
		"one too early":             {map[string][]byte{n5: two, n6: fileOf(entry(6, 1)), n7: fileOf(entry(7, 1))}, 5, 6, []string{n5}},
		"one too early, that fits":  {map[string][]byte{n5: two, n6: fileOf(entry(7, 1))}, 5, 6, []string{n5}},
		"a name that fits, only":    {map[string][]byte{n5: two, n7: fileOf(entry(8, 1)), n9: fileOf(entry(9, 1))}, 5, 6, []string{n5}},
		"another first one":         {map[string][]byte{n5: fileOf(entries(6, 1, 1)...), n6: fileOf(entry(6, 1))}, 0, 0, nil},
		"a first one ahead":         {map[string][]byte{n5: fileOf(entries(4, 1, 1)...), n6: fileOf(entry(6, 1))}, 0, 0, nil},
		"an empty one":              {map[string][]byte{n5: nil}, 0, 0, nil},
		"an empty first one":        {map[string][]byte{n5: nil, n6: fileOf(entry(6, 1))}, 0, 0, nil},
		"an empty one between":      {map[string][]byte{n5: two, n7: nil, nameFor(8): fileOf(entry(8, 1))}, 5, 6, []string{n5}},
		"an empty last one":         {map[string][]byte{n5: two, n7: nil}, 5, 6, []string{n5}},
		"an empty one, too early":   {map[string][]byte{n5: two, n6: nil, n7: fileOf(entry(7, 1))}, 5, 6, []string{n5}},
		"the index 0":               {map[string][]byte{nameFor(0): fileOf(entries(0, 1, 1)...), nameFor(1): fileOf(entry(1, 1))}, 0, 0, nil},
		"the index 0, empty":        {map[string][]byte{nameFor(0): nil, nameFor(1): fileOf(entry(1, 1))}, 0, 0, nil},
		"the index 1":               {map[string][]byte{nameFor(1): fileOf(entry(1, 1))}, 1, 1, []string{nameFor(1)}},
		"the greatest index":        {map[string][]byte{nameFor(1 << 40): fileOf(entries(1<<40, 1, 1)...), nameFor(1<<40 + 1): fileOf(entry(1<<40+1, 1))}, 1 << 40, 1 << 40, []string{nameFor(1 << 40)}},
		"beyond it":                 {map[string][]byte{nameFor(1<<40 + 1): fileOf(entry(1<<40+1, 1))}, 0, 0, nil},
		"the greatest name":         {map[string][]byte{n5: two, "w999999999999999": fileOf(entry(999999999999999, 1))}, 5, 6, []string{n5}},
		"the greatest name, alone":  {map[string][]byte{"w999999999999999": fileOf(entry(999999999999999, 1))}, 0, 0, nil},
		"one that goes back":        {map[string][]byte{n5: fileOf(entry(5, 1), entry(6, 1), entry(5, 1), entry(6, 1)), n7: fileOf(entry(7, 1))}, 5, 6, []string{n5}},
		"one twice":                 {map[string][]byte{n5: fileOf(entry(5, 1), entry(5, 1)), n6: fileOf(entry(6, 1))}, 5, 5, []string{n5}},
		"one left out":              {map[string][]byte{n5: fileOf(entry(5, 1), entry(7, 1)), n7: fileOf(entry(7, 1))}, 5, 5, []string{n5}},
		"a second one that breaks":  {map[string][]byte{n5: two, n7: append(fileOf(entry(7, 1)), 1), nameFor(8): fileOf(entry(8, 1))}, 5, 7, []string{n5, n7}},
		"others that begin with w":  {map[string][]byte{n5: two, "w00000000000007": fileOf(entry(7, 1)), "w00000000000007x": nil, "w": nil}, 5, 6, []string{"w", n5, "w00000000000007", "w00000000000007x"}},
		"another one between":       {map[string][]byte{n5: two, "w0000000000000:6": nil, n7: fileOf(entry(7, 1))}, 5, 7, []string{n5, n7, "w0000000000000:6"}},
		"segments beyond 256 bytes": {map[string][]byte{n5: fileOf(entries(5, 2048, 2048)...), n7: fileOf(entries(7, 1, 1)...)}, 5, 8, []string{n5, n7}},
	} {
		x := laid(t, c.files)
		x.has(t, what, c.first, c.last, c.names...)
		if c.last < 1<<40 {
			x.append(t, entries(max(1, c.last+1), 1, at, 1)...)
			x.ok(t, call{kind: "Open"})
		}
	}
}

// noRecords are bytes that no right entry's record begins with, though 6 would be the index.
func noRecords() map[string][]byte {
	e := entry(6, 40)
	good := recordOf(e)
	change := func(f func(b []byte) []byte) []byte { return f(slices.Clone(good)) }
	raw := func(payload ...byte) []byte { return sectorsOf(frameOf(payload)) }
	num := func(ns ...int64) []byte {
		var b []byte
		for _, n := range ns {
			b = binary.AppendVarint(b, n)
		}
		return raw(b...)
	}
	return map[string][]byte{
		"a byte":                    {1},
		"a zero":                    {0},
		"a sector of zeros":         make([]byte, 32),
		"a frame of nothing":        append([]byte{1}, make([]byte, 31)...),
		"cut at its first sector":   good[:32],
		"cut at a byte":             good[:33],
		"cut at its last byte":      good[:len(good)-1],
		"the first sector alone":    good[:31],
		"the first one lost":        change(func(b []byte) []byte { clear(b[:32]); return b }),
		"the second one lost":       change(func(b []byte) []byte { clear(b[32:]); return b }),
		"its first mark 0":          change(func(b []byte) []byte { b[0] = 0; return b }),
		"its first mark 2":          change(func(b []byte) []byte { b[0] = 2; return b }),
		"its first mark 3":          change(func(b []byte) []byte { b[0] = 3; return b }),
		"its second mark 0":         change(func(b []byte) []byte { b[32] = 0; return b }),
		"its second mark 1":         change(func(b []byte) []byte { b[32] = 1; return b }),
		"its second mark 3":         change(func(b []byte) []byte { b[32] = 3; return b }),
		"a wrong sum":               change(func(b []byte) []byte { b[5]++; return b }),
		"a wrong length":            change(func(b []byte) []byte { b[1]--; return b }),
		"a length that is too long": change(func(b []byte) []byte { b[1]++; return b }),
		"a length of 4097":          change(func(b []byte) []byte { b[1], b[2] = 1, 16; return b }),
		"the greatest length":       change(func(b []byte) []byte { copy(b[1:], []byte{255, 255, 255, 255}); return b }),
		"turned data":               change(func(b []byte) []byte { b[40] ^= 128; return b }),
		"no zeros behind it":        change(func(b []byte) []byte { b[len(b)-1] = 1; return b }),
		"a sector more":             sectorsOf(append(frameOf(payloadOf(e)), make([]byte, 40)...))[32:],
		"no payload":                raw(),
		"a payload of zeros":        raw(0, 0, 0, 0),
		"no Data":                   num(6, 1, 1),
		"Data that are cut":         num(6, 1, 1, 3),
		"a byte behind it":          raw(append(payloadOf(e), 0)...),
		"a number of two forms":     raw(12|128, 0, 2, 2, 0),
		"a length of two forms":     raw(12, 2, 2, 128, 0),
		"a length below 0":          num(6, 1, 1, -1),
		"the index 0":               recordOf(entry(0, 3)),
		"the index -6":              recordOf(api.Entry{Index: -6}),
		"the index 5":               recordOf(entry(5, 3)),
		"the index 7":               recordOf(entry(7, 3)),
		"the index 6 and 2^40":      recordOf(api.Entry{Index: 6 + 1<<40}),
		"the term -1":               recordOf(api.Entry{Index: 6, Term: -1}),
		"the term 2^40 and 1":       recordOf(api.Entry{Index: 6, Term: 1<<40 + 1}),
		"the greatest term":         recordOf(api.Entry{Index: 6, Term: 1<<63 - 1}),
		"the kind -1":               recordOf(api.Entry{Index: 6, Kind: -1}),
		"the kind 3":                recordOf(api.Entry{Index: 6, Kind: 3}),
		"the kind 2^32":             recordOf(api.Entry{Index: 6, Kind: 1 << 32}),
		"the kind 2^32 and 1":       recordOf(api.Entry{Index: 6, Kind: 1<<32 + 1}),
		"2049 bytes":                recordOf(entry(6, 2049)),
		"4000 bytes":                recordOf(entry(6, 4000)),
		"4096 bytes":                recordOf(entry(6, 4096)),
	}
}

// P6.3: what is no record ends a segment, be it the first or behind one, and whatever is behind it.
func TestOpenNoRecords(t *testing.T) {
	for what, b := range noRecords() {
		for _, behind := range [][]byte{nil, recordOf(entry(6, 3)), recordOf(entry(7, 3))} {
			files := map[string][]byte{nameFor(5): slices.Concat(recordOf(entry(5, 40)), b, behind), nameFor(6): recordOf(entry(6, 3)), nameFor(7): recordOf(entry(7, 3))}
			x := laid(t, files)
			x.has(t, what, 5, 5, nameFor(5))
			if got, _ := x.d.Read(nameFor(5)); !bytes.Equal(got, recordOf(entry(5, 40))) {
				t.Errorf("%s: %v", what, got)
			}
			x = laid(t, map[string][]byte{nameFor(6): slices.Concat(b, behind), nameFor(7): recordOf(entry(7, 3))})
			x.has(t, what+", first", 0, 0)
			x = laid(t, map[string][]byte{nameFor(5): recordOf(entry(5, 40)), nameFor(6): slices.Concat(b, behind)})
			x.has(t, what+", of a segment", 5, 5, nameFor(5))
		}
	}
}

// P6.1: sectors with a 2 behind a whole record are none of it.
func TestOpenStraySectors(t *testing.T) {
	for _, size := range []int{0, 18, 19, 20, 40} {
		stray := append([]byte{2}, make([]byte, 31)...)
		x := laid(t, map[string][]byte{nameFor(5): slices.Concat(recordOf(entry(5, size)), stray, recordOf(entry(6, 3)))})
		x.has(t, "a stray sector", 5, 5, nameFor(5))
		if got, _ := x.d.Read(nameFor(5)); !bytes.Equal(got, recordOf(entry(5, size))) {
			t.Errorf("%d: %v", size, got)
		}
	}
}

// P6.3: every byte of a segment is turned, in many ways.
func TestOpenTurnedBytes(t *testing.T) {
	good := fileOf(entries(5, 3, 40, 19, 20)...)
	ends := []int{32, 96, 128, 192}
	if len(good) != 192 {
		t.Fatalf("%d bytes", len(good))
	}
	for i := range good {
		for _, turn := range []byte{1, 2, 3, 4, 128, 129, 255} {
			b := slices.Clone(good)
			b[i] ^= turn
			d := disk.New()
			d.Create(nameFor(5))
			d.Write(nameFor(5), 0, b)
			w, e := wal.Open(d)
			if e != api.OK {
				t.Fatalf("byte %d turned by %d: %d", i, turn, e)
			}
			// The record in which it lies, and all behind, aren't there.
			n := 0
			for n < len(ends) && ends[n] <= i {
				n++
			}
			sameEntries(t, call{kind: "turned"}, w, entries(5, 3, 40, 19, 20)[:n])
			size := 0
			if n > 0 {
				size = ends[n-1]
			}
			if got, _ := d.Read(nameFor(5)); !bytes.Equal(got, good[:size]) || d.Loose() != 0 {
				t.Fatalf("byte %d turned by %d: %v", i, turn, got)
			}
		}
	}
}

// P6.3: a segment is cut at every byte.
func TestOpenCutBytes(t *testing.T) {
	good := fileOf(entries(5, 3, 40, 19, 20)...)
	for n := range len(good) + 1 {
		x := laid(t, map[string][]byte{nameFor(5): good[:n], nameFor(9): fileOf(entry(9, 1))})
		var last int64
		for i, end := range []int{32, 96, 128, 192} {
			if n >= end {
				last = int64(5 + i)
			}
		}
		if n == 192 {
			last = 9
		}
		if x.w.Last() != last {
			t.Errorf("%d bytes: %d, not %d", n, x.w.Last(), last)
		}
	}
}

// P6.3: files as long as may be, and as many.
func TestOpenGreatDisks(t *testing.T) {
	var b []byte
	for i := range 2048 {
		b = append(b, recordOf(entry(int64(i+1), i%16))...)
	}
	x := newBoth()
	x.put(t, map[string][]byte{nameFor(1): b, nameFor(2049): recordOf(entry(2049, 1)), nameFor(3000): make([]byte, api.MaxFile)})
	x.ok(t, call{kind: "Open"})
	x.has(t, "the longest", 1, 2049, nameFor(1), nameFor(2049))
	x.append(t, entries(2050, 1, at, 1)...)
	x.ok(t, call{kind: "CutFrom", index: 1025})
	x.append(t, entries(1025, 1)...)
	x.ok(t, call{kind: "Open"})
	x.has(t, "cut", 1, 1025, nameFor(1), nameFor(1025))

	files := map[string][]byte{}
	for i := range api.MaxFiles {
		files[nameFor(int64(i+1))] = recordOf(entry(int64(i+1), 1))
	}
	files[nameFor(200)] = bytes.Repeat([]byte{2}, api.MaxFile)
	x = newBoth()
	x.put(t, files)
	x.ok(t, call{kind: "Open"})
	if x.w.First() != 1 || x.w.Last() != 199 || len(x.d.Names()) != 199 {
		t.Errorf("%d to %d, %d files", x.w.First(), x.w.Last(), len(x.d.Names()))
	}
	for _, mark := range []byte{0, 1, 2} {
		b := bytes.Repeat(append([]byte{mark}, make([]byte, 31)...), 2048)
		b[0], b[2] = 1, 16 // a frame of 4096 bytes
		laid(t, map[string][]byte{nameFor(1): b}).has(t, "the longest frame", 0, 0)
	}
}

// P6.1, P6.2: what Open has is synced, be it ever so loose; what it doesn't have isn't touched.
func TestOpenSyncs(t *testing.T) {
	x := opened(t)
	x.append(t, entries(1, 40, at, 3, at, 1)...)
	for _, d := range []*disk.Disk{x.d, x.twin} {
		d.Create("x")
		d.Write("x", 0, make([]byte, 33))
	}
	x.ok(t, call{kind: "Open"})
	if x.d.Loose() != 2 {
		t.Errorf("%d loose", x.d.Loose())
	}
	x.crash(t, nil)
	x.ok(t, call{kind: "Open"})
	if x.w.Last() != 5 {
		t.Errorf("%d to %d", x.w.First(), x.w.Last())
	}
	// Three segments, three steps, and none for a Sync behind.
	x.d.Fail(4)
	w, e := wal.Open(x.d)
	if e != api.OK || w.Sync() != api.OK || x.d.Down() {
		t.Errorf("Open = %d", e)
	}
	x.d.Fail(3)
	if w, e := wal.Open(x.d); e != api.ErrDown || w != nil {
		t.Errorf("without power = %v, %d", w, e)
	}
}

// anyFile is bytes that are nearly a segment's, or not at all.
func anyFile(r *rand.Rand, index int64) []byte {
	var b []byte
	sizes := []int{0, 3, 19, 20, 50, 100, at}
	for range r.IntN(4) {
		b = append(b, recordOf(entry(index, sizes[r.IntN(len(sizes))]))...)
		index++
		if r.IntN(15) == 0 {
			index += r.Int64N(3) - 1
		}
	}
	for range r.IntN(3) * r.IntN(2) {
		if len(b) == 0 {
			break
		}
		i := r.IntN(len(b))
		switch r.IntN(5) {
		case 0:
			b = b[:i]
		case 1:
			b[i] ^= byte(1 << r.IntN(8))
		case 2:
			clear(b[i/32*32 : min(i/32*32+32, len(b))])
		case 3:
			b = slices.Insert(b, i/32*32, b[i/32*32:min(i/32*32+32, len(b))]...)
		case 4:
			b = append(b, byte(r.IntN(3)))
		}
	}
	return b
}

// P6.3: whatever a disk holds.
func TestOpenAnyDisk(t *testing.T) {
	whole := 0
	for seed := range 3000 {
		r := rand.New(rand.NewPCG(63, uint64(seed)))
		files := map[string][]byte{}
		index := r.Int64N(3)
		for range r.IntN(5) {
			b := anyFile(r, index)
			name := nameFor(index)
			if r.IntN(20) == 0 {
				name = strings.Replace(name, "0", string("w:/ 9"[r.IntN(5)]), 1)
			}
			files[name] = b
			for at := 0; at < len(b); {
				_, n, ok := recordAt(b, at)
				if !ok {
					break
				}
				at += n
				index++
			}
			if r.IntN(12) == 0 {
				index += r.Int64N(3) - 1
			}
			index = max(index, 0)
		}
		x := laid(t, files)
		if len(x.d.Names()) == len(files) && len(files) > 1 {
			whole++
		}
	}
	if whole < 100 {
		t.Errorf("only %d disks were right", whole)
	}
}

// P6.3: bytes of no form at all.
func FuzzOpen(f *testing.F) {
	f.Add([]byte{}, fileOf(entries(1, 3, 40)...))
	f.Add(fileOf(entries(1, 3)...), fileOf(entries(2, 3, 40)...))
	f.Add(recordOf(entry(1, 40))[:40], recordOf(entry(2, 2049)))
	f.Fuzz(func(t *testing.T, a, b []byte) {
		if max(len(a), len(b)) <= api.MaxFile {
			laid(t, map[string][]byte{nameFor(1): a, nameFor(2): b})
		}
	})
}
