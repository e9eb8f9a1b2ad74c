package snap_test

import (
	"bytes"
	"fmt"
	"maps"
	"math"
	"math/rand/v2"
	"slices"
	"testing"

	"quillet/api"
	"quillet/snap"
)

func conf(voters []int, learners ...int) api.Conf {
	return api.Conf{Voters: voters, Learners: learners}
}

// of is a snapshot with Data of a size, whose other parts hang on its index.
func of(index int64, size int) snap.Snap {
	data := make([]byte, size)
	for i := range data {
		data[i] = byte(index) + byte(i*7) + byte(i>>8)
	}
	return snap.Snap{Index: index, Term: index % 5, Conf: conf([]int{1, 3}, 2), Data: data}
}

// P8.1: bytes, written out.
func TestForm(t *testing.T) {
	for what, c := range map[string]struct {
		s    snap.Snap
		want []byte
	}{
		"the least": {snap.Snap{Index: 1}, []byte{5, 0, 0, 0, 0x6D, 0xA9, 0x50, 0x35, 2, 0, 0, 0, 0}},
		"members":   {snap.Snap{Index: 64, Term: 3, Conf: conf([]int{1, 2, 7}, 4, 5)}, []byte{11, 0, 0, 0, 0x78, 0x53, 0x30, 0xC8, 128, 1, 6, 6, 2, 4, 14, 4, 8, 10, 0}},
		"data":      {snap.Snap{Index: 1 << 40, Term: 1, Conf: conf(nil, 6), Data: []byte("hi")}, []byte{11, 0, 0, 0, 0xC8, 0xA5, 0xD9, 0x75, 128, 128, 128, 128, 128, 64, 2, 0, 2, 12, 4, 2, 0, 0, 0, 0xC2, 0xD9, 0x9D, 0xF5, 'h', 'i'}},
	} {
		b, e := snap.Bytes(c.s)
		if e != api.OK || !bytes.Equal(b, c.want) {
			t.Errorf("%s: %#v, %d", what, b, e)
		}
		if s, e := snap.Read(c.want); e != api.OK || !same(s, c.s) {
			t.Errorf("%s: %s, %d", what, tell(s), e)
		}
	}
}

// P8.1: how many frames of how many bytes.
func TestPieces(t *testing.T) {
	head := len(fileOf(of(5, 0)))
	for size, want := range map[int]int{
		0: head, 1: head + 9, 63: head + 8 + 63, 64: head + 1 + 8 + 64, 2047: head + 1 + 8 + 2047, 2048: head + 1 + 8 + 2048, 2049: head + 1 + 16 + 2049,
		4095: head + 1 + 16 + 4095, 4096: head + 1 + 16 + 4096, 4097: head + 1 + 24 + 4097, 32767: head + 2 + 128 + 32767, 32768: head + 2 + 128 + 32768,
	} {
		s := of(5, size)
		b, e := snap.Bytes(s)
		if e != api.OK || len(b) != want || !bytes.Equal(b, fileOf(s)) {
			t.Errorf("%d: %d bytes, not %d; %d", size, len(b), want, e)
		}
		if got, e := snap.Read(b); e != api.OK || !same(got, s) {
			t.Errorf("%d: %s, %d", size, tell(got), e)
		}
	}
}

// check goes both ways: a right one has its bytes, and these it; another one has none, and what would be its bytes are nobody's.
func check(t *testing.T, s snap.Snap, right bool) {
	t.Helper()
	if isRight(s) != right {
		t.Fatalf("%s: this test says %v itself", tell(s), isRight(s))
	}
	b, e := snap.Bytes(s)
	if right && (e != api.OK || !bytes.Equal(b, fileOf(s))) || !right && (e != api.ErrArg || len(b) != 0) {
		t.Fatalf("Bytes of %s = %v, %d", tell(s), b, e)
	}
	got, e := snap.Read(fileOf(s))
	if right && (e != api.OK || !same(got, s)) || !right && (e != api.ErrForm || !empty(got)) {
		t.Fatalf("Read of %s = %s, %d", tell(s), tell(got), e)
	}
}

// rightCases are snapshots, and whether each is right.
func rightCases() map[string]struct {
	s  snap.Snap
	is bool
} {
	type row = struct {
		s  snap.Snap
		is bool
	}
	out := map[string]row{
		"zeros":        {snap.Snap{}, false},
		"no members":   {snap.Snap{Index: 5, Conf: conf([]int{})}, true},
		"all greatest": {snap.Snap{Index: 1 << 40, Term: 1 << 40, Conf: conf([]int{1, 2, 3, 4, 5, 6, 7}), Data: bytes.Repeat([]byte{255}, 32768)}, true},
		"all wrong":    {snap.Snap{Index: -1, Term: -1, Conf: conf([]int{0}, 0), Data: make([]byte, 32769)}, false},
	}
	for n, is := range map[int64]bool{math.MinInt64: false, -1 << 40: false, -1: false, 0: false, 1: true, 2: true, 1<<40 - 1: true, 1 << 40: true, 1<<40 + 1: false, 1e15: false, math.MaxInt64: false} {
		out[fmt.Sprint("Index ", n)] = row{snap.Snap{Index: n, Term: 1, Conf: conf([]int{1}), Data: []byte("x")}, is}
	}
	for n, is := range map[int64]bool{math.MinInt64: false, -1 << 40: false, -1: false, 0: true, 1: true, 1<<40 - 1: true, 1 << 40: true, 1<<40 + 1: false, math.MaxInt64: false} {
		out[fmt.Sprint("Term ", n)] = row{snap.Snap{Index: 5, Term: n, Conf: conf([]int{1}), Data: []byte("x")}, is}
	}
	for n, is := range map[int]bool{0: true, 1: true, 2047: true, 2048: true, 2049: true, 32767: true, 32768: true, 32769: false, 65536: false, 200000: false} {
		out[fmt.Sprint("Data ", n)] = row{snap.Snap{Index: 5, Conf: conf([]int{1}), Data: make([]byte, n)}, is}
	}
	for _, c := range []struct {
		members []int
		is      bool
	}{
		{nil, true}, {[]int{1}, true}, {[]int{7}, true}, {[]int{0}, false}, {[]int{8}, false}, {[]int{-1}, false},
		{[]int{1, 2, 3, 4, 5, 6, 7}, true}, {[]int{1, 2, 3, 4, 5, 6, 7, 8}, false}, {[]int{0, 1, 2, 3, 4, 5, 6, 7}, false}, {[]int{1, 2, 3, 4, 5, 6, 7, 7}, false}, {[]int{7, 6, 5, 4, 3, 2, 1}, false},
		{[]int{2, 5, 6}, true}, {[]int{2, 2}, false}, {[]int{2, 1}, false}, {[]int{1, 3, 2}, false}, {[]int{1, 3, 3}, false}, {[]int{3, 4, 0}, false}, {[]int{3, 4, 9}, false},
		{[]int{math.MinInt}, false}, {[]int{math.MaxInt}, false}, {[]int{1 << 32}, false}, {[]int{1<<32 + 1}, false}, {[]int{257}, false}, {slices.Repeat([]int{1}, 5000), false},
	} {
		out[fmt.Sprint("Voters ", len(c.members), c.members[:min(9, len(c.members))])] = row{snap.Snap{Index: 5, Conf: conf(c.members)}, c.is}
		out[fmt.Sprint("Learners ", len(c.members), c.members[:min(9, len(c.members))])] = row{snap.Snap{Index: 5, Conf: conf(nil, c.members...)}, c.is}
	}
	for _, c := range []struct {
		conf api.Conf
		is   bool
	}{
		{conf([]int{1}, 2), true}, {conf([]int{2}, 1), true}, {conf([]int{1}, 1), false}, {conf([]int{1, 2}, 2), false}, {conf([]int{1, 2}, 1), false}, {conf([]int{7}, 1, 7), false},
		{conf([]int{1, 3, 5, 7}, 2, 4, 6), true}, {conf([]int{1, 3, 5, 7}, 2, 5, 6), false}, {conf([]int{1, 2, 3, 4, 5, 6, 7}, 1, 2, 3, 4, 5, 6, 7), false}, {conf([]int{1, 2, 3}, 4, 5, 6, 7), true},
	} {
		out[fmt.Sprint("both ", c.conf)] = row{snap.Snap{Index: 5, Conf: c.conf}, c.is}
	}
	return out
}

// P8.1
func TestRight(t *testing.T) {
	for _, c := range rightCases() {
		check(t, c.s, c.is)
	}
}

// P8.1: every right configuration, and every pair of lists of up to three numbers from 0 to 4, and of two from -1 to 8.
func TestConfs(t *testing.T) {
	for i := range 2187 {
		var c api.Conf
		for n, k := 1, i; n <= 7; n, k = n+1, k/3 {
			switch k % 3 {
			case 1:
				c.Voters = append(c.Voters, n)
			case 2:
				c.Learners = append(c.Learners, n)
			}
		}
		check(t, snap.Snap{Index: 9, Conf: c, Data: []byte("data")}, true)
	}
	right := 0
	try := func(lists [][]int) {
		for _, voters := range lists {
			for _, learners := range lists {
				s := snap.Snap{Index: 9, Conf: conf(voters, learners...)}
				check(t, s, isRight(s))
				if isRight(s) {
					right++
				}
			}
		}
	}
	try(lists(0, 4, 3))
	if right != 81-2 {
		t.Errorf("%d of the numbers from 0 to 4 are right", right)
	}
	try(lists(-1, 8, 2))
}

// lists are all of up to most numbers from lo to hi.
func lists(lo, hi, most int) [][]int {
	out := [][]int{nil}
	for from := 0; most > 0; most-- {
		end := len(out)
		for ; from < end; from++ {
			for n := lo; n <= hi; n++ {
				out = append(out, append(slices.Clone(out[from]), n))
			}
		}
	}
	return out
}

// refused tells whether Read answers ErrForm, and nothing beside it.
func refused(t *testing.T, what string, b []byte) {
	t.Helper()
	if s, e := snap.Read(b); e != api.ErrForm || !empty(s) {
		t.Errorf("%s: %s, %d", what, tell(s), e)
	}
}

// P8.1: bytes that are cut at each place, and with others behind.
func TestReadCut(t *testing.T) {
	for _, size := range []int{0, 1, 40, 2048, 2049, 5000} {
		b := fileOf(of(5, size))
		for n := range b {
			refused(t, fmt.Sprint(n, " bytes of ", len(b)), b[:n])
		}
		for what, behind := range map[string][]byte{"a zero": {0}, "a one": {1}, "8 zeros": make([]byte, 8), "a sector": make([]byte, 32), "itself": b, "a frame": frameOf([]byte("x")), "a full frame": frameOf(make([]byte, 2048)), "a cut frame": frameOf([]byte("xy"))[:9]} {
			refused(t, fmt.Sprint(size, ", and ", what), slices.Concat(b, behind))
		}
		refused(t, fmt.Sprint(size, ", and a byte ahead"), append([]byte{0}, b...))
		refused(t, fmt.Sprint(size, ", and an empty frame ahead"), append(make([]byte, 8), b...))
	}
	refused(t, "nil", nil)
	refused(t, "zeros", make([]byte, 70000))
	refused(t, "others", bytes.Repeat([]byte{255}, 70000))
}

// P8.1: every byte turned; of small ones in every way.
func TestReadTurned(t *testing.T) {
	for size, turns := range map[int]int{0: 255, 1: 255, 40: 255, 2048: 8, 2100: 8} {
		good := fileOf(of(5, size))
		b := slices.Clone(good)
		for i := range b {
			for k := range turns {
				turn := byte(k + 1)
				if turns == 8 {
					turn = 1 << k
				}
				b[i] ^= turn
				refused(t, fmt.Sprintf("%d: byte %d turned by %d", size, i, turn), b)
				b[i] = good[i]
			}
		}
	}
}

// wrongFiles are files of right frames, that no snapshot has.
func wrongFiles() map[string][]byte {
	s := of(5, 5000)
	a, b, c := frameOf(s.Data[:2048]), frameOf(s.Data[2048:4096]), frameOf(s.Data[4096:])
	head := numbersOf(headOf(s)...)
	small := numbersOf(5, 1, 1, 1, 0, 3)
	cat := func(bs ...[]byte) []byte { return slices.Concat(bs...) }
	return map[string][]byte{
		"no data":                         head,
		"a piece is left out":             cat(head, a, b),
		"the first one is left out":       cat(head, b, c),
		"one twice":                       cat(head, a, b, b, c),
		"one more":                        cat(head, a, b, c, c),
		"an empty one behind":             cat(head, a, b, c, make([]byte, 8)),
		"an empty one between":            cat(head, a, make([]byte, 8), b, c),
		"the last one first":              cat(head, c, a, b),
		"the last one second":             cat(head, a, c, b),
		"the head last":                   cat(a, b, c, head),
		"the head second":                 cat(a, head, b, c),
		"the head twice":                  cat(head, head, a, b, c),
		"no head":                         cat(a, b, c),
		"all in one":                      cat(head, frameOf(s.Data[:4096]), c),
		"pieces of 2049":                  cat(head, frameOf(s.Data[:2049]), frameOf(s.Data[2049:4098]), frameOf(s.Data[4098:])),
		"pieces of 2047":                  cat(head, frameOf(s.Data[:2047]), frameOf(s.Data[2047:4094]), frameOf(s.Data[4094:])),
		"pieces of 1024":                  cat(head, frameOf(s.Data[:1024]), frameOf(s.Data[1024:2048]), b, c),
		"the first one short":             cat(head, frameOf(s.Data[:904]), frameOf(s.Data[904:2952]), frameOf(s.Data[2952:])),
		"a short one in two":              cat(head, a, b, frameOf(s.Data[4096:4500]), frameOf(s.Data[4500:])),
		"a last one that is longer":       cat(head, a, b, frameOf(append(slices.Clone(s.Data[4096:]), 0))),
		"a last one that is full":         cat(head, a, b, frameOf(make([]byte, 2048))),
		"a last one that is shorter":      cat(head, a, b, frameOf(s.Data[4096:4999])),
		"the data in the head":            frameOf(append(slices.Clone(small[8:]), "abc"...)),
		"the data without a frame":        cat(small, []byte("abc")),
		"the data as bytes":               cat(small, frameOf([]byte("\x06abc"))),
		"a frame for no data":             cat(numbersOf(5, 1, 0, 0, 0), make([]byte, 8)),
		"a length of 2 for 3":             cat(numbersOf(5, 1, 0, 0, 2), frameOf([]byte("abc"))),
		"a length of 4 for 3":             cat(numbersOf(5, 1, 0, 0, 4), frameOf([]byte("abc"))),
		"a length of 0 for 3":             cat(numbersOf(5, 1, 0, 0, 0), frameOf([]byte("abc"))),
		"a length of -3":                  cat(numbersOf(5, 1, 0, 0, -3), frameOf([]byte("abc"))),
		"a length of -1":                  numbersOf(5, 1, 0, 0, -1),
		"a length of 32769":               cat(numbersOf(5, 1, 0, 0, 32769), bytes.Repeat(frameOf(make([]byte, 2048)), 16), frameOf([]byte{0})),
		"a length of 2^32 and 3":          cat(numbersOf(5, 1, 0, 0, 1<<32+3), frameOf([]byte("abc"))),
		"the greatest length":             cat(numbersOf(5, 1, 0, 0, math.MaxInt64), frameOf([]byte("abc"))),
		"no length":                       numbersOf(5, 1, 0, 0),
		"two lengths":                     numbersOf(5, 1, 0, 0, 0, 0),
		"no learners":                     numbersOf(5, 1, 0),
		"no voters":                       numbersOf(5, 1),
		"no term":                         numbersOf(5),
		"no number":                       numbersOf(),
		"fewer voters than are told":      numbersOf(5, 1, 3, 1, 2, 0, 0),
		"more voters than are told":       numbersOf(5, 1, 1, 1, 2, 0, 0),
		"-1 voters":                       numbersOf(5, 1, -1, 0, 0),
		"8 voters":                        numbersOf(5, 1, 8, 1, 2, 3, 4, 5, 6, 7, 8, 0, 0),
		"8 voters, of whom one twice":     numbersOf(5, 1, 8, 1, 2, 3, 4, 5, 6, 7, 7, 0, 0),
		"2^32 voters":                     numbersOf(5, 1, 1<<32, 0, 0),
		"the greatest number of voters":   numbersOf(5, 1, math.MaxInt64, 0, 0),
		"-1 learners":                     numbersOf(5, 1, 0, -1, 0),
		"8 learners":                      numbersOf(5, 1, 0, 8, 1, 2, 3, 4, 5, 6, 7, 8, 0),
		"the greatest number of learners": numbersOf(5, 1, 0, math.MaxInt64, 0),
		"voter 2^32 and 1":                numbersOf(5, 1, 1, 1<<32+1, 0, 0),
		"learner 2^32 and 1":              numbersOf(5, 1, 0, 1, 1<<32+1, 0),
		"voter -1":                        numbersOf(5, 1, 1, -1, 0, 0),
		"voter 0":                         numbersOf(5, 1, 1, 0, 0, 0),
		"an index of two forms":           frameOf([]byte{10 | 128, 0, 2, 0, 0, 0}),
		"a term of two forms":             frameOf([]byte{10, 2 | 128, 0, 0, 0, 0}),
		"a count of two forms":            frameOf([]byte{10, 2, 128, 0, 0, 0}),
		"a voter of two forms":            frameOf([]byte{10, 2, 2, 2 | 128, 0, 0, 0}),
		"a length of two forms":           frameOf([]byte{10, 2, 0, 0, 128, 0}),
		"an index that goes on":           frameOf(bytes.Repeat([]byte{128}, 30)),
		"the longest head":                frameOf(make([]byte, 4096)),
		"a head that is too long":         frameOf(make([]byte, 4097)),
	}
}

// P8.1
func TestReadWrongFiles(t *testing.T) {
	files := wrongFiles()
	for _, what := range slices.Sorted(maps.Keys(files)) {
		refused(t, what, files[what])
		if _, ok := snapOf(files[what]); ok {
			t.Errorf("%s: this test takes it itself", what)
		}
	}
}

// P8.1: heads of any small numbers, and Data in any pieces.
func TestReadAny(t *testing.T) {
	right := 0
	for seed := range 60000 {
		r := rand.New(rand.NewPCG(8, uint64(seed)))
		ns := []int64{r.Int64N(3), r.Int64N(3) - r.Int64N(2)}
		for range 2 {
			n := r.Int64N(4)
			ns = append(ns, n)
			for i := range n {
				ns = append(ns, 1+2*i+r.Int64N(3))
			}
		}
		size := r.Int64N(2) * r.Int64N(5000)
		ns = append(ns, size)
		if r.IntN(4) == 0 {
			i := r.IntN(len(ns))
			ns[i] += r.Int64N(3) - 1
		}
		b := numbersOf(ns...)
		for size > 0 {
			n := min(size, 2048)
			if r.IntN(10) == 0 {
				n = min(size, 1+r.Int64N(2100))
			}
			b = append(b, frameOf(make([]byte, n))...)
			size -= n
		}
		want, ok := snapOf(b)
		got, e := snap.Read(b)
		if ok != (e == api.OK) || !ok && e != api.ErrForm || !same(got, want) {
			t.Fatalf("%d: %v: %s, %d, not %s, %v", seed, ns, tell(got), e, tell(want), ok)
		}
		if !ok {
			continue
		}
		right++
		if again, e := snap.Bytes(got); e != api.OK || !bytes.Equal(again, b) {
			t.Fatalf("%d: %v, %d", seed, again, e)
		}
	}
	if right < 1000 {
		t.Errorf("only %d were right", right)
	}
}

// P8.1: bytes of no form at all.
func FuzzRead(f *testing.F) {
	f.Add(fileOf(of(5, 0)))
	f.Add(fileOf(of(1<<40, 2100)))
	f.Add(numbersOf(1, 2, 3))
	f.Fuzz(func(t *testing.T, b []byte) {
		for _, b := range [][]byte{b, frameOf(b), append(numbersOf(5, 1, 0, 0, int64(len(b))), frameOf(b)...)} {
			want, ok := snapOf(b)
			if got, e := snap.Read(b); ok != (e == api.OK) || !ok && e != api.ErrForm || !same(got, want) {
				t.Fatalf("%s, %d, not %s, %v", tell(got), e, tell(want), ok)
			}
		}
	})
}
