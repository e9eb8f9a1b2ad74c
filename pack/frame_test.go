package pack_test

import (
	"bytes"
	"encoding/binary"
	"hash/crc32"
	"slices"
	"testing"

	"quillet/api"
	"quillet/pack"
)

// frameOf says a payload's frame by the document's words.
func frameOf(payload []byte) []byte {
	b := binary.LittleEndian.AppendUint32(nil, uint32(len(payload)))
	b = binary.LittleEndian.AppendUint32(b, sumOf(payload))
	return append(b, payload...)
}

// sumOf says the sum bit by bit.
func sumOf(b []byte) uint32 {
	s := uint32(0xFFFFFFFF)
	for _, c := range b {
		for bit := range 8 {
			odd := (s ^ uint32(c>>bit)) & 1
			s = s>>1 ^ odd*0x82F63B78
		}
	}
	return ^s
}

// P3.1
func TestSum(t *testing.T) {
	for text, want := range map[string]uint32{"": 0, "123456789": 0xE3069283, "a": 0xC1D04330} {
		if got := pack.Sum([]byte(text)); got != want {
			t.Errorf("Sum(%q) = %x", text, got)
		}
	}
	if pack.Sum(nil) != 0 || pack.Sum(make([]byte, 32)) != 0x8A9136AA || pack.Sum(bytes.Repeat([]byte{255}, 32)) != 0x62A8AB43 {
		t.Error("Sum of nil, or of 32 bytes of one kind")
	}
	library := crc32.MakeTable(crc32.Castagnoli)
	check := func(b []byte) {
		if got := pack.Sum(b); got != sumOf(b) || got != crc32.Checksum(b, library) {
			t.Fatalf("Sum(%v) = %x", b, got)
		}
	}
	for i := range 256 {
		check([]byte{byte(i)})
	}
	var d dice
	for n := range 300 {
		check(d.bytes(n))
	}
	check(d.bytes(100000))
}

// P3.1, P3.2
func TestFrames(t *testing.T) {
	var d dice
	for _, n := range []int{0, 1, 2, 9, 255, 256, 257, api.MaxData - 1, api.MaxData} {
		payload := d.bytes(n)
		f, e := pack.Frame(payload)
		if e != api.OK || !bytes.Equal(f, frameOf(payload)) {
			t.Fatalf("the frame of %d bytes: %v, %d", n, f, e)
		}
		for _, behind := range [][]byte{nil, {0}, f} {
			p, size, e := pack.Unframe(append(slices.Clone(f), behind...))
			if e != api.OK || size != 8+n || !bytes.Equal(p, payload) {
				t.Fatalf("the frame of %d bytes, %d behind it: %v, %d, %d", n, len(behind), p, size, e)
			}
		}
		for cut := range f {
			if p, size, e := pack.Unframe(f[:cut]); e != api.ErrMore || size != 0 || len(p) != 0 {
				t.Fatalf("%d bytes of the frame of %d: %v, %d, %d", cut, n, p, size, e)
			}
		}
	}
	for _, n := range []int{api.MaxData + 1, 5000, 70000} {
		if f, e := pack.Frame(make([]byte, n)); e != api.ErrLong || len(f) != 0 {
			t.Errorf("the frame of %d bytes: %d, %d", n, len(f), e)
		}
	}
	if f, e := pack.Frame(nil); e != api.OK || !bytes.Equal(f, make([]byte, 8)) {
		t.Errorf("the frame of nothing: %v, %d", f, e)
	}
}

// P3.1: in their order.
func TestUnframeRefuses(t *testing.T) {
	good := frameOf([]byte("hi"))
	full := frameOf(make([]byte, api.MaxData))
	withLength := func(n uint32, size int) []byte {
		return append(binary.LittleEndian.AppendUint32(nil, n), make([]byte, size-4)...)
	}
	for name, c := range map[string]struct {
		b []byte
		e api.Errno
	}{
		"nil":                       {nil, api.ErrMore},
		"empty":                     {[]byte{}, api.ErrMore},
		"a long one cut at seven":   {withLength(1<<32-1, 7), api.ErrMore},
		"long":                      {withLength(api.MaxData+1, 8), api.ErrLong},
		"long, and all there":       {withLength(api.MaxData+1, 8+api.MaxData+1), api.ErrLong},
		"a length of the top bit":   {withLength(1<<31, 8), api.ErrLong},
		"the greatest length":       {withLength(1<<32-1, 100), api.ErrLong},
		"a length of another byte":  {withLength(1<<16, 100), api.ErrLong},
		"the bound, cut":            {withLength(api.MaxData, 8+api.MaxData-1), api.ErrMore},
		"the bound, a sum of zeros": {withLength(api.MaxData, 8+api.MaxData), api.ErrSum},
		"cut, with a wrong sum":     {[]byte{2, 0, 0, 0, 9, 9, 9, 9, 'h'}, api.ErrMore},
		"a wrong sum":               {append([]byte{2, 0, 0, 0, 9, 9, 9, 9}, "hi"...), api.ErrSum},
		"no payload, a wrong sum":   {[]byte{0, 0, 0, 0, 1, 0, 0, 0}, api.ErrSum},
		"no payload, its top bit":   {[]byte{0, 0, 0, 0, 0, 0, 0, 128}, api.ErrSum},
		"another payload":           {append(slices.Clone(good[:8]), "ho"...), api.ErrSum},
		"one byte fewer":            {append([]byte{1}, good[1:]...), api.ErrSum},
		"one byte more":             {append([]byte{3}, good[1:]...), api.ErrMore},
		"one byte more, there":      {append(append([]byte{3}, good[1:]...), 0), api.ErrSum},
		"the bound, one turned":     {append(slices.Clone(full[:len(full)-1]), 1), api.ErrSum},
	} {
		if p, size, e := pack.Unframe(c.b); e != c.e || size != 0 || len(p) != 0 {
			t.Errorf("%s: %v, %d, %d, not %d", name, p, size, e, c.e)
		}
	}
	if p, size, e := pack.Unframe(make([]byte, 8)); e != api.OK || size != 8 || len(p) != 0 {
		t.Errorf("8 zeros: %v, %d, %d", p, size, e)
	}
}

// P3.3
func TestTurnedFrames(t *testing.T) {
	var d dice
	for _, n := range []int{0, 1, 2, 5, 40} {
		payload := d.bytes(n)
		f := frameOf(payload)
		for i := range f {
			for turn := 1; turn < 256; turn++ {
				bad := slices.Clone(f)
				bad[i] ^= byte(turn)
				p, size, e := pack.Unframe(bad)
				if e == api.OK && bytes.Equal(p, payload) {
					t.Fatalf("the frame of %d bytes with %d turned by %d is a frame of the same", n, i, turn)
				}
				if e != api.OK && (size != 0 || len(p) != 0) {
					t.Fatalf("beside %d: %v, %d", e, p, size)
				}
				if i >= 4 && e != api.ErrSum {
					t.Fatalf("the frame of %d bytes with %d turned by %d: %d", n, i, turn, e)
				}
			}
		}
	}
}

// P3.4
func TestFramesAreNewMemory(t *testing.T) {
	back := []byte{1, 2, 3, 4, 5}
	f, _ := pack.Frame(back[:3])
	if !bytes.Equal(back, []byte{1, 2, 3, 4, 5}) {
		t.Fatal("Frame has changed its argument")
	}
	spoil(back)
	if !bytes.Equal(f, frameOf([]byte{1, 2, 3})) {
		t.Error("the frame shares with the payload")
	}
	in := append(slices.Clone(f), 7, 8)
	want := slices.Clone(in)
	pack.Sum(in)
	p, _, _ := pack.Unframe(in)
	if !bytes.Equal(in, want) {
		t.Fatal("Unframe has changed its argument")
	}
	spoil(p)
	if !bytes.Equal(in, want) {
		t.Error("the payload shares with the frame")
	}
	p, _, _ = pack.Unframe(in)
	spoil(in)
	if !bytes.Equal(p, []byte{1, 2, 3}) {
		t.Error("the payload shares with the frame")
	}
	empty, _, _ := pack.Unframe(append(make([]byte, 8), 5, 6))
	spoil(empty)
}
