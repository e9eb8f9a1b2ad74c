package pack_test

import (
	"bytes"
	"encoding/binary"
	"math"
	"slices"
	"testing"

	"quillet/api"
	"quillet/flo"
	"quillet/pack"
)

const (
	formNaN = 0x7FF8000000000001
	sign    = 1 << 63
	infBits = 0x7FF0000000000000
)

// noKinds are numbers that are no kind.
var noKinds = []int{0, 5, -1, 9, math.MaxInt, math.MinInt}

// dice are bits that look scattered, the same at every run.
type dice uint64

func (d *dice) roll() uint64 {
	*d = *d*6364136223846793005 + 1442695040888963407
	return uint64(*d) ^ uint64(*d)>>29
}

func (d *dice) below(n int) int { return int(d.roll() % uint64(n)) }

func (d *dice) bytes(n int) []byte {
	b := make([]byte, n)
	for i := range b {
		b[i] = byte(d.roll() >> 8)
	}
	return b
}

func at(u uint64) float64 { return math.Float64frombits(u) }

// edgeNums are the numbers at which a byte more is needed, with their neighbours, of both signs.
func edgeNums() []int64 {
	out := []int64{0, math.MaxInt64, math.MinInt64, math.MaxInt64 - 1, math.MinInt64 + 1}
	for shift := range 63 {
		for d := int64(-2); d <= 2; d++ {
			out = append(out, 1<<shift+d, -(1<<shift)+d)
		}
	}
	var d dice
	for range 2000 {
		out = append(out, int64(d.roll())>>d.below(64))
	}
	return out
}

// numBytes says a number's bytes by the document's words; 2n and -2n - 1 fit 64 bits without a sign.
func numBytes(n int64) []byte {
	u := uint64(n) * 2
	if n < 0 {
		u = -u - 1
	}
	var out []byte
	for {
		group := byte(u % 128)
		u /= 128
		if u == 0 {
			return append(out, group)
		}
		out = append(out, group+128)
	}
}

// edgeKeys are bits of keys: NaNs of several bits, both zeros, the ends, the least ones, and scattered ones.
func edgeKeys() []uint64 {
	out := []uint64{
		formNaN, 0x7FF8000000000000, 0x7FF0000000000001, 0x7FFFFFFFFFFFFFFF, 0xFFF0000000000001, 0xFFF8000000000000, 0xFFFFFFFFFFFFFFFF,
		0, sign, 1, sign | 1, infBits, sign | infBits, infBits - 1, sign | (infBits - 1), 0x3FF0000000000000, 0xBFF0000000000000,
	}
	var d dice
	for range 500 {
		out = append(out, d.roll())
	}
	return out
}

func formBits(u uint64) uint64 {
	switch {
	case u == sign:
		return 0
	case u&^sign > infBits:
		return formNaN
	}
	return u
}

func same(a, b pack.Val) bool {
	return a.Kind == b.Kind && a.N == b.N && math.Float64bits(a.X) == math.Float64bits(b.X) && bytes.Equal(a.B, b.B) && a.On == b.On
}

// asGot is a value as Get tells it: what its kind doesn't name is zero, and a key is in its form.
func asGot(v pack.Val) pack.Val {
	switch v.Kind {
	case pack.Num:
		return pack.Val{Kind: v.Kind, N: v.N}
	case pack.Key:
		return pack.Val{Kind: v.Kind, X: at(formBits(math.Float64bits(v.X)))}
	case pack.Bytes:
		return pack.Val{Kind: v.Kind, B: v.B}
	}
	return pack.Val{Kind: v.Kind, On: v.On}
}

func (d *dice) val() pack.Val {
	keys, nums := edgeKeys(), edgeNums()
	v := pack.Val{Kind: 1 + d.below(4), N: nums[d.below(len(nums))], X: at(keys[d.below(len(keys))]), B: d.bytes(d.below(40)), On: d.below(2) == 1}
	if d.below(50) == 0 {
		v.B = d.bytes(api.MaxData - d.below(2))
	}
	return v
}

func mustPut(t *testing.T, vs ...pack.Val) []byte {
	t.Helper()
	b, e := pack.Put(vs)
	if e != api.OK {
		t.Fatalf("Put(%v) = %d", vs, e)
	}
	return b
}

// P3.1, P3.2
func TestNumbers(t *testing.T) {
	for n, want := range map[int64][]byte{
		0: {0}, -1: {1}, 1: {2}, -2: {3}, 63: {126}, -64: {127}, 64: {128, 1}, -65: {129, 1}, 8191: {254, 127}, -8192: {255, 127}, 8192: {128, 128, 1},
		math.MaxInt64: {254, 255, 255, 255, 255, 255, 255, 255, 255, 1}, math.MinInt64: {255, 255, 255, 255, 255, 255, 255, 255, 255, 1},
	} {
		if got := mustPut(t, pack.Val{Kind: pack.Num, N: n}); !bytes.Equal(got, want) {
			t.Errorf("%d is %v", n, got)
		}
	}
	for _, n := range edgeNums() {
		b := mustPut(t, pack.Val{Kind: pack.Num, N: n})
		if !bytes.Equal(b, numBytes(n)) || !bytes.Equal(b, binary.AppendVarint(nil, n)) {
			t.Errorf("%d is %v", n, b)
		}
		vs, e := pack.Get(b, []int{pack.Num})
		if e != api.OK || len(vs) != 1 || !same(vs[0], pack.Val{Kind: pack.Num, N: n}) {
			t.Errorf("%v is %v, %d", b, vs, e)
		}
	}
}

// P3.1, P3.2: bytes that are no number, or not one's one form.
func TestNoNumbers(t *testing.T) {
	nines := bytes.Repeat([]byte{255}, 9)
	eights := bytes.Repeat([]byte{128}, 9)
	for _, b := range [][]byte{
		nil, {}, {128}, {255}, {128, 0}, {129, 0}, {255, 0}, {128, 128}, {128, 128, 0}, {255, 255, 0}, {0, 0}, {1, 1}, {128, 1, 0},
		nines, append(slices.Clone(nines), 0), append(slices.Clone(nines), 2), append(slices.Clone(nines), 3), append(slices.Clone(nines), 127), append(slices.Clone(nines), 129),
		append(slices.Clone(nines), 128, 0), append(slices.Clone(nines), 129, 0), append(slices.Clone(nines), 129, 1), append(slices.Clone(nines), 255, 1),
		append(slices.Clone(eights), 0), append(slices.Clone(eights), 2), append(slices.Clone(eights), 128, 1), append(slices.Clone(eights), 64),
		bytes.Repeat([]byte{128}, 100), append(bytes.Repeat([]byte{255}, 100), 1),
	} {
		if vs, e := pack.Get(b, []int{pack.Num}); e != api.ErrForm || len(vs) != 0 {
			t.Errorf("%v is %v, %d", b, vs, e)
		}
	}
	if vs, e := pack.Get(append(eights, 1), []int{pack.Num}); e != api.OK || vs[0].N != 1<<62 {
		t.Errorf("nine times 128, and 1: %v, %d", vs, e)
	}
}

// P3.2: of all strings of up to two bytes, those are numbers that some number is put as.
func TestAllShortNumbers(t *testing.T) {
	forms := map[string]int64{}
	for n := int64(-8192); n < 8192; n++ {
		forms[string(numBytes(n))] = n
	}
	for i := range 256 {
		checkShort(t, forms, []byte{byte(i)})
		for k := range 256 {
			checkShort(t, forms, []byte{byte(i), byte(k)})
		}
	}
}

func checkShort(t *testing.T, forms map[string]int64, b []byte) {
	t.Helper()
	n, is := forms[string(b)]
	vs, e := pack.Get(b, []int{pack.Num})
	if is && (e != api.OK || vs[0].N != n) || !is && (e != api.ErrForm || len(vs) != 0) {
		t.Fatalf("%v is %v, %d", b, vs, e)
	}
}

// P3.1, P3.2
func TestKeys(t *testing.T) {
	for _, u := range edgeKeys() {
		b := mustPut(t, pack.Val{Kind: pack.Key, X: at(u)})
		if want := binary.BigEndian.AppendUint64(nil, flo.Code(at(u))); !bytes.Equal(b, want) {
			t.Errorf("the key %x is %v", u, b)
		}
		vs, e := pack.Get(b, []int{pack.Key})
		if e != api.OK || len(vs) != 1 || !same(vs[0], pack.Val{Kind: pack.Key, X: at(formBits(u))}) {
			t.Errorf("the key %x is got as %v, %d", u, vs, e)
		}
		for n := range 8 {
			if vs, e := pack.Get(b[:n], []int{pack.Key}); e != api.ErrForm || len(vs) != 0 {
				t.Errorf("%d bytes of a key: %v, %d", n, vs, e)
			}
		}
	}
	if b := mustPut(t, pack.Val{Kind: pack.Key, X: math.Copysign(0, -1)}); !bytes.Equal(b, []byte{128, 0, 0, 0, 0, 0, 0, 0}) {
		t.Errorf("-0 is %v", b)
	}
}

// P3.1: codes that no key has.
func TestNoKeys(t *testing.T) {
	for _, u := range []uint64{1, 2, 0x000FFFFFFFFFFFFE, sign - 1, 0xFFF0000000000001, math.MaxUint64, formNaN | sign} {
		if vs, e := pack.Get(binary.BigEndian.AppendUint64(nil, u), []int{pack.Key}); e != api.ErrForm || len(vs) != 0 {
			t.Errorf("the code %x is %v, %d", u, vs, e)
		}
	}
}

// P3.1, P3.2
func TestBytes(t *testing.T) {
	var d dice
	for _, n := range []int{0, 1, 63, 64, 127, 128, api.MaxData - 1, api.MaxData} {
		in := d.bytes(n)
		b := mustPut(t, pack.Val{Kind: pack.Bytes, B: in})
		if !bytes.Equal(b, append(numBytes(int64(n)), in...)) {
			t.Errorf("%d bytes are put as %v", n, b)
		}
		vs, e := pack.Get(b, []int{pack.Bytes})
		if e != api.OK || len(vs) != 1 || !same(vs[0], pack.Val{Kind: pack.Bytes, B: in}) {
			t.Errorf("%d bytes: %v, %d", n, vs, e)
		}
		if vs, e := pack.Get(b[:len(b)-1], []int{pack.Bytes}); e != api.ErrForm || len(vs) != 0 {
			t.Errorf("%d bytes without the last: %v, %d", n, vs, e)
		}
		if vs, e := pack.Get(append(b, 0), []int{pack.Bytes}); e != api.ErrForm || len(vs) != 0 {
			t.Errorf("%d bytes with one behind: %v, %d", n, vs, e)
		}
	}
	for _, n := range []int64{api.MaxData + 1, 5000, -1, -4096, math.MaxInt64, math.MinInt64, 1 << 32, 1<<32 + 1} {
		b := append(numBytes(n), make([]byte, 6000)...)
		if vs, e := pack.Get(b[:len(numBytes(n))+min(6000, int(max(n, 0)))], []int{pack.Bytes}); e != api.ErrForm || len(vs) != 0 {
			t.Errorf("%d bytes: %d values, %d", n, len(vs), e)
		}
	}
	if b := mustPut(t, pack.Val{Kind: pack.Bytes}); !bytes.Equal(b, []byte{0}) {
		t.Errorf("nil bytes are %v", b)
	}
	if b, e := pack.Put([]pack.Val{{Kind: pack.Bytes, B: make([]byte, api.MaxData+1)}}); e != api.ErrLong || len(b) != 0 {
		t.Errorf("too many bytes: %d of them, %d", len(b), e)
	}
}

// P3.1, P3.2
func TestFlags(t *testing.T) {
	for i := range 256 {
		vs, e := pack.Get([]byte{byte(i)}, []int{pack.Flag})
		if i > 1 {
			if e != api.ErrForm || len(vs) != 0 {
				t.Errorf("the flag %d: %v, %d", i, vs, e)
			}
			continue
		}
		want := pack.Val{Kind: pack.Flag, On: i == 1}
		if e != api.OK || len(vs) != 1 || !same(vs[0], want) {
			t.Errorf("the flag %d: %v, %d", i, vs, e)
		}
		if b := mustPut(t, want); !bytes.Equal(b, []byte{byte(i)}) {
			t.Errorf("the flag %v is %v", want.On, b)
		}
	}
	if vs, e := pack.Get(nil, []int{pack.Flag}); e != api.ErrForm || len(vs) != 0 {
		t.Errorf("no flag: %v, %d", vs, e)
	}
}

// P3.1: the first fault in the list is told, with nothing beside it.
func TestPutTellsTheFirstFault(t *testing.T) {
	num := pack.Val{Kind: pack.Num, N: 7}
	long := pack.Val{Kind: pack.Bytes, B: make([]byte, api.MaxData+1)}
	for _, kind := range noKinds {
		none := pack.Val{Kind: kind, N: 1, B: long.B}
		for _, c := range []struct {
			vs []pack.Val
			e  api.Errno
		}{
			{[]pack.Val{none}, api.ErrArg},
			{[]pack.Val{num, none}, api.ErrArg},
			{[]pack.Val{none, num}, api.ErrArg},
			{[]pack.Val{none, long}, api.ErrArg},
			{[]pack.Val{long, none}, api.ErrLong},
			{[]pack.Val{num, long, num, none}, api.ErrLong},
			{[]pack.Val{num, none, num, long}, api.ErrArg},
		} {
			if b, e := pack.Put(c.vs); e != c.e || len(b) != 0 {
				t.Errorf("a kind %d: %v, %d, not %d", kind, b, e, c.e)
			}
		}
	}
}

// P3.1: what a kind doesn't name is let be, be it too long or no key.
func TestPutLetsBe(t *testing.T) {
	rest := pack.Val{N: -1, X: math.NaN(), B: make([]byte, api.MaxData+1), On: true}
	for kind, want := range map[int][]byte{pack.Num: {1}, pack.Key: make([]byte, 8), pack.Flag: {1}} {
		v := rest
		v.Kind = kind
		if got := mustPut(t, v); !bytes.Equal(got, want) {
			t.Errorf("the kind %d is %v", kind, got)
		}
	}
	v := pack.Val{Kind: pack.Bytes, N: 5, X: 5, B: []byte{9}, On: true}
	if got := mustPut(t, v); !bytes.Equal(got, []byte{2, 9}) {
		t.Errorf("bytes are %v", got)
	}
}

// P3.1
func TestNoValues(t *testing.T) {
	for _, vs := range [][]pack.Val{nil, {}} {
		if b, e := pack.Put(vs); e != api.OK || len(b) != 0 {
			t.Errorf("Put of none = %v, %d", b, e)
		}
	}
	for _, b := range [][]byte{nil, {}} {
		for _, kinds := range [][]int{nil, {}} {
			if vs, e := pack.Get(b, kinds); e != api.OK || len(vs) != 0 {
				t.Errorf("Get of none = %v, %d", vs, e)
			}
			if vs, e := pack.Get([]byte{0}, kinds); e != api.ErrForm || len(vs) != 0 {
				t.Errorf("Get of none, with a byte = %v, %d", vs, e)
			}
		}
	}
}

// P3.1: a kind that is none is told ahead of wrong bytes, wherever each stands.
func TestGetTellsTheKindFirst(t *testing.T) {
	for _, kind := range noKinds {
		for _, kinds := range [][]int{{kind}, {pack.Num, kind}, {kind, pack.Num}, {pack.Flag, pack.Bytes, kind}} {
			for _, b := range [][]byte{nil, {0}, {2}, {9, 9, 9}, {128, 0, 0}, {0, 0, 0, 0}} {
				if vs, e := pack.Get(b, kinds); e != api.ErrArg || len(vs) != 0 {
					t.Errorf("Get(%v, %v) = %v, %d", b, kinds, vs, e)
				}
			}
		}
	}
}

// P3.2: what is put is got back, and of what is cut or has more behind it nothing.
func TestPutIsGotBack(t *testing.T) {
	var d dice
	for range 300 {
		var vs []pack.Val
		var kinds []int
		var whole []byte
		for range d.below(7) {
			v := d.val()
			vs, kinds = append(vs, v), append(kinds, v.Kind)
			whole = append(whole, mustPut(t, v)...)
		}
		b := mustPut(t, vs...)
		if !bytes.Equal(b, whole) {
			t.Fatalf("%v aren't put one behind the other", vs)
		}
		got, e := pack.Get(b, kinds)
		if e != api.OK || !slices.EqualFunc(got, vs, func(g, v pack.Val) bool { return same(g, asGot(v)) }) {
			t.Fatalf("%v are got as %v, %d", vs, got, e)
		}
		if len(b) > 0 {
			if got, e := pack.Get(b[:d.below(len(b))], kinds); e != api.ErrForm || len(got) != 0 {
				t.Fatalf("%v, cut: %v, %d", vs, got, e)
			}
		}
		if got, e := pack.Get(append(b, byte(d.below(256))), kinds); e != api.ErrForm || len(got) != 0 {
			t.Fatalf("%v and a byte: %v, %d", vs, got, e)
		}
	}
}

// P3.2: bytes that are got are what these values are put as.
func TestGotIsPutBack(t *testing.T) {
	var d dice
	found := 0
	for range 200000 {
		b := d.bytes(d.below(14))
		for i := range b {
			if d.below(3) > 0 { // so that flags and short lengths are often there
				b[i] &= 3
			}
		}
		kinds := make([]int, d.below(4))
		for i := range kinds {
			kinds[i] = 1 + d.below(4)
		}
		vs, e := pack.Get(b, kinds)
		if e != api.OK {
			if e != api.ErrForm || len(vs) != 0 {
				t.Fatalf("Get(%v, %v) = %v, %d", b, kinds, vs, e)
			}
			continue
		}
		found++
		if len(vs) != len(kinds) || !bytes.Equal(mustPut(t, vs...), b) {
			t.Fatalf("Get(%v, %v) = %v", b, kinds, vs)
		}
		for i, v := range vs {
			if v.Kind != kinds[i] || !same(v, asGot(v)) {
				t.Fatalf("Get(%v, %v) = %v", b, kinds, vs)
			}
		}
	}
	if found < 1000 {
		t.Errorf("only %d were right", found)
	}
}

// P3.4
func TestValuesAreNewMemory(t *testing.T) {
	back := []byte{1, 2, 3, 4, 5, 6, 7, 8}
	vs := []pack.Val{{Kind: pack.Bytes, B: back[:3]}, {Kind: pack.Num, N: 5}, {Kind: pack.Bytes, B: back[3:5]}, {Kind: pack.Bytes, B: back[5:5]}}
	b := mustPut(t, vs...)
	want := slices.Clone(b)
	spoil(b)
	if !bytes.Equal(back, []byte{1, 2, 3, 4, 5, 6, 7, 8}) || vs[1].N != 5 || len(vs[0].B) != 3 {
		t.Error("Put's answer shares with its argument, or has changed it")
	}
	b = mustPut(t, vs...)
	spoil(back)
	if !bytes.Equal(b, want) {
		t.Error("Put's answer shares with its argument")
	}
	kinds := []int{pack.Bytes, pack.Num, pack.Bytes, pack.Bytes}
	in := append(slices.Clone(want), 99)[:len(want)]
	got, e := pack.Get(in, kinds)
	if e != api.OK || in[:len(want)+1][len(want)] != 99 || !bytes.Equal(in, want) || !slices.Equal(kinds, []int{pack.Bytes, pack.Num, pack.Bytes, pack.Bytes}) {
		t.Fatalf("Get has changed its arguments: %d", e)
	}
	spoil(in)
	if !bytes.Equal(got[0].B, []byte{1, 2, 3}) || !bytes.Equal(got[2].B, []byte{4, 5}) {
		t.Error("Get's answer shares with its argument")
	}
	spoil(got[0].B)
	spoil(got[3].B)
	if !bytes.Equal(got[2].B, []byte{4, 5}) {
		t.Error("two lists of Get's answer share")
	}
	again, _ := pack.Get(want, kinds)
	spoil(again[0].B)
	again[0] = pack.Val{}
	if !bytes.Equal(want, mustPut(t, pack.Val{Kind: pack.Bytes, B: []byte{1, 2, 3}}, pack.Val{Kind: pack.Num, N: 5}, pack.Val{Kind: pack.Bytes, B: []byte{4, 5}}, pack.Val{Kind: pack.Bytes})) {
		t.Error("Get's answer shares with its argument")
	}
}

// spoil writes over all of a list's memory, its spare room too.
func spoil(b []byte) {
	b = b[:cap(b)]
	for i := range b {
		b[i] = 0xEE
	}
}
