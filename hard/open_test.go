package hard_test

import (
	"bytes"
	"maps"
	"slices"
	"testing"

	"quillet/api"
)

// laid is both with these files, opened; and opened again, with the power going at its first step.
func laid(t *testing.T, files map[string][]byte) *both {
	t.Helper()
	x := newBoth()
	x.put(t, files, true)
	x.fail(1)
	x.must(t, call{open: true})
	x.crash(t, nil)
	x.ok(t, call{open: true})
	p := x.kept()
	x.fail(1)
	x.ok(t, call{open: true})
	if x.kept() != p || x.d.Down() {
		t.Fatalf("opened again: %v, not %v", x.kept(), p)
	}
	x.fail(0)
	return x
}

// has tells whether bytes are opened as a pair, whatever "hard.tmp" has; they stay as they are.
func has(t *testing.T, what string, b []byte, want pair) {
	t.Helper()
	for _, tmp := range [][]byte{nil, {}, pair{6, 1}.file(), []byte("no"), bytes.Repeat([]byte{255}, 100)} {
		files := map[string][]byte{"hard": b, "hard.tmp": tmp}
		if tmp == nil {
			delete(files, "hard.tmp")
		}
		x := laid(t, files)
		if x.kept() != want || !slices.Equal(x.d.Names(), []string{"hard"}) {
			t.Errorf("%s, hard.tmp %v: %v, %q; not %v", what, tmp, x.kept(), x.d.Names(), want)
		}
		if got, e := x.d.Read("hard"); e != api.OK || !bytes.Equal(got, b) {
			t.Errorf("%s: Open has changed it: %v, %d", what, got, e)
		}
		// The zeros that it counts as are what is kept already.
		x.fail(1)
		x.ok(t, call{pair: want})
		x.fail(0)
		x.ok(t, save(want.term/2+1, 3), call{open: true})
		if x.kept() != (pair{want.term/2 + 1, 3}) {
			t.Errorf("%s: %v behind Save", what, x.kept())
		}
	}
}

// P7.1, P7.3: bytes that are a pair's.
func TestOpenRight(t *testing.T) {
	for _, term := range []int64{0, 1, 2, 63, 64, 1<<40 - 1, 1 << 40} {
		for vote := range 8 {
			has(t, "right", numbersOf(term, int64(vote)), pair{term, vote})
		}
	}
}

// P7.1, P7.3: bytes that aren't.
func TestOpenWrong(t *testing.T) {
	good := pair{3, 2}.file()
	change := func(f func(b []byte) []byte) []byte { return f(slices.Clone(good)) }
	cases := map[string][]byte{
		"empty":                      {},
		"a zero":                     {0},
		"8 zeros":                    make([]byte, 8),
		"32 zeros":                   make([]byte, 32),
		"text":                       []byte("3 2"),
		"a byte behind":              change(func(b []byte) []byte { return append(b, 0) }),
		"two bytes behind":           change(func(b []byte) []byte { return append(b, 6, 4) }),
		"a sector's zeros behind":    change(func(b []byte) []byte { return append(b, make([]byte, 22)...) }),
		"the same behind":            change(func(b []byte) []byte { return append(b, good...) }),
		"another behind":             append(slices.Clone(good), pair{4, 0}.file()...),
		"a byte ahead":               append([]byte{0}, good...),
		"no frame":                   good[8:],
		"a wrong sum":                change(func(b []byte) []byte { b[5]++; return b }),
		"a lower length":             change(func(b []byte) []byte { b[0]--; return b }),
		"a higher length":            change(func(b []byte) []byte { b[0]++; return b }),
		"a higher length, filled up": change(func(b []byte) []byte { b[0]++; return append(b, 0) }),
		"the greatest length":        change(func(b []byte) []byte { copy(b, []byte{255, 255, 255, 255}); return b }),
		"no number":                  numbersOf(),
		"one number":                 numbersOf(3),
		"one number of two bytes":    numbersOf(64),
		"three numbers":              numbersOf(3, 2, 0),
		"three zeros":                numbersOf(0, 0, 0),
		"the term -1":                numbersOf(-1, 2),
		"the term -3":                numbersOf(-3, 2),
		"the term 2^40 and 1":        numbersOf(1<<40+1, 2),
		"the greatest term":          numbersOf(1<<63-1, 2),
		"the least term":             numbersOf(-1<<63, 2),
		"the vote -1":                numbersOf(3, -1),
		"the vote 8":                 numbersOf(3, 8),
		"the vote 2^32":              numbersOf(3, 1<<32),
		"the vote 2^32 and 2":        numbersOf(3, 1<<32+2),
		"the greatest vote":          numbersOf(3, 1<<63-1),
		"both out of range":          numbersOf(-1, 8),
		"the other way round":        numbersOf(2, 1<<40),
		"a term of two forms":        frameOf([]byte{6 | 128, 0, 4}),
		"a vote of two forms":        frameOf([]byte{6, 4 | 128, 0}),
		"a term that goes on":        frameOf(bytes.Repeat([]byte{128}, 12)),
		"a vote that is cut":         frameOf([]byte{6, 128}),
		"a key":                      frameOf(make([]byte, 8)),
		"bytes":                      frameOf([]byte{4, 6, 4}),
		"numbers behind others":      numbersOf(3, 2, 3, 2),
		"the longest frame":          frameOf(make([]byte, 4096)),
		"a frame that is too long":   frameOf(make([]byte, 4097)),
		"the longest file":           append(slices.Clone(good), make([]byte, api.MaxFile-len(good))...),
		"the longest file of zeros":  make([]byte, api.MaxFile),
		"the longest file of others": bytes.Repeat([]byte{255}, api.MaxFile),
		"the longest file of frames": bytes.Repeat(good, api.MaxFile/len(good)),
	}
	for _, what := range slices.Sorted(maps.Keys(cases)) {
		has(t, what, cases[what], pair{})
	}
}

// P7.3: there is no "hard".
func TestOpenWithoutFile(t *testing.T) {
	for _, files := range []map[string][]byte{{}, {"hard.tmp": nil}, {"hard.tmp": pair{6, 1}.file()}, {"hard.tmp": []byte("no")}} {
		x := laid(t, files)
		if x.kept() != (pair{}) || len(x.d.Names()) != 0 {
			t.Errorf("%v: %v, %q", files, x.kept(), x.d.Names())
		}
		x.fail(1)
		x.ok(t, save(0, 0))
		x.fail(0)
		x.ok(t, save(0, 1), call{open: true}, save(0, 0), call{open: true})
		if b, _ := x.d.Read("hard"); !bytes.Equal(b, numbersOf(0, 0)) {
			t.Errorf("%v: %v", files, b)
		}
	}
}

// P7.3: cut at every byte, and every byte turned in every way.
func TestOpenCutAndTurned(t *testing.T) {
	for _, p := range []pair{{3, 2}, {1 << 40, 7}, {64, 0}} {
		good := p.file()
		for n := range good {
			has(t, "cut", good[:n], pair{})
			for turn := 1; turn < 256; turn++ {
				b := slices.Clone(good)
				b[n] ^= byte(turn)
				if x := laid(t, map[string][]byte{"hard": b}); x.kept() != (pair{}) {
					t.Fatalf("byte %d turned by %d: %v", n, turn, x.kept())
				}
			}
		}
		has(t, "whole", good, p)
	}
}

// P7.3: every payload of up to two bytes, in its frame.
func TestOpenSmallPayloads(t *testing.T) {
	found := 0
	for i := range 1 << 16 {
		payload := []byte{byte(i), byte(i >> 8)}
		for n := range 3 {
			if n < 2 && i >= 1<<(8*n) {
				continue
			}
			x := newBoth()
			x.put(t, map[string][]byte{"hard": frameOf(payload[:n])}, true)
			x.ok(t, call{open: true})
			if x.kept() != (pair{}) {
				found++
			}
		}
	}
	if found != 64*8-1 {
		t.Errorf("%d pairs of one byte each", found)
	}
}

// P7.3: bytes of no form at all.
func FuzzOpen(f *testing.F) {
	f.Add([]byte{}, []byte{}, false)
	f.Add(pair{3, 2}.file(), pair{4, 0}.file(), true)
	f.Add(numbersOf(3), numbersOf(1, 2, 3), true)
	f.Fuzz(func(t *testing.T, b, tmp []byte, has bool) {
		if max(len(b), len(tmp)) > api.MaxFile {
			return
		}
		files := map[string][]byte{"hard": b}
		if has {
			files["hard.tmp"] = tmp
		}
		laid(t, files)
		// As a payload it is a frame at least.
		if len(b) <= api.MaxData {
			files["hard"] = frameOf(b)
			laid(t, files)
		}
	})
}
