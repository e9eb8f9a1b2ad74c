package pack_test

import (
	"bytes"
	"errors"
	"math"
	"slices"
	"testing"

	"quillet/api"
	"quillet/pack"
)

// sample is a number, a key, bytes, a flag and a count, as bytes.
func sample(t *testing.T) []byte {
	t.Helper()
	return mustPut(t, pack.Val{Kind: pack.Num, N: -300}, pack.Val{Kind: pack.Key, X: -2.5}, pack.Val{Kind: pack.Bytes, B: []byte("hi")}, pack.Val{Kind: pack.Flag, On: true}, pack.Val{Kind: pack.Num, N: 70})
}

// seen is what a function has read, and how many values that were.
type seen struct {
	n     int64
	x     float64
	b     string
	on    bool
	count int
	many  int
}

func (s *seen) all(r *pack.Reader) {
	s.n = r.Num()
	s.many++
	s.x = r.Key()
	s.many++
	s.b = string(r.Bytes())
	s.many++
	s.on = r.Flag()
	s.many++
	s.count = r.Count(70)
	s.many++
}

// P3.1
func TestReadValues(t *testing.T) {
	var s seen
	if e := pack.Read(sample(t), s.all); e != api.OK || s != (seen{-300, -2.5, "hi", true, 70, 5}) {
		t.Errorf("read %v, %d", s, e)
	}
	if e := pack.Read(append(sample(t), 0), s.all); e != api.ErrForm {
		t.Errorf("with a byte behind: %d", e)
	}
	for _, b := range [][]byte{nil, {}} {
		ran := false
		if e := pack.Read(b, func(r *pack.Reader) { ran = true }); e != api.OK || !ran {
			t.Errorf("nothing of nothing: %v, %d", ran, e)
		}
	}
}

// P3.1: f ends at the value that isn't there.
func TestReadEndsWhereBytesEnd(t *testing.T) {
	b := sample(t)
	ends := []int{2, 10, 13, 14, 16} // how many bytes the first values have
	for n := range len(b) {
		many := 0
		for many < len(ends) && ends[many] <= n {
			many++
		}
		var s seen
		if e := pack.Read(b[:n], s.all); e != api.ErrForm || s.many != many {
			t.Errorf("%d bytes: %d values, %d", n, s.many, e)
		}
	}
}

// P3.1: wrong bytes for each method; nothing behind them is run, deferred calls are.
func TestReadEndsAtWrongBytes(t *testing.T) {
	long := append(numBytes(api.MaxData+1), make([]byte, api.MaxData+1)...)
	for name, c := range map[string]struct {
		b []byte
		f func(r *pack.Reader)
	}{
		"a number": {[]byte{128, 0}, func(r *pack.Reader) { r.Num() }},
		"a key":    {[]byte{0, 0, 0, 0, 0, 0, 0, 1}, func(r *pack.Reader) { r.Key() }},
		"bytes":    {[]byte{4, 'h'}, func(r *pack.Reader) { r.Bytes() }},
		"long":     {long, func(r *pack.Reader) { r.Bytes() }},
		"fewer":    {[]byte{1}, func(r *pack.Reader) { r.Bytes() }},
		"a flag":   {[]byte{2}, func(r *pack.Reader) { r.Flag() }},
		"a count":  {[]byte{128, 0}, func(r *pack.Reader) { r.Count(9) }},
	} {
		behind, deferred := false, false
		e := pack.Read(c.b, func(r *pack.Reader) {
			defer func() { deferred = true }()
			c.f(r)
			behind = true
		})
		if e != api.ErrForm || behind || !deferred {
			t.Errorf("%s: %d, run behind it: %v, deferred: %v", name, e, behind, deferred)
		}
	}
}

// P3.1: Count is a number from 0 to the bound.
func TestCount(t *testing.T) {
	for _, c := range []struct {
		n    int64
		most int
		ok   bool
	}{
		{0, 0, true}, {1, 0, false}, {3, 3, true}, {4, 3, false}, {2, 3, true}, {-1, 3, false}, {-1, -1, false}, {0, -1, false}, {-5, -3, false},
		{math.MaxInt, math.MaxInt, true}, {math.MaxInt, math.MaxInt - 1, false}, {math.MinInt64, math.MaxInt, false}, {0, math.MinInt, false}, {math.MinInt, math.MinInt, false},
		{1 << 32, 1, false}, {1<<32 + 1, 5, false}, {64, 64, true},
	} {
		got := -7
		e := pack.Read(numBytes(c.n), func(r *pack.Reader) { got = r.Count(c.most) })
		if c.ok && (e != api.OK || int64(got) != c.n) || !c.ok && (e != api.ErrForm || got != -7) {
			t.Errorf("%d to %d: %d, %d", c.n, c.most, got, e)
		}
	}
}

// P3.1: Fail ends f with its error, whatever bytes are left.
func TestFail(t *testing.T) {
	for _, b := range [][]byte{nil, {0}, {6, 1, 0}} {
		for e, want := range map[api.Errno]api.Errno{api.OK: api.ErrForm, api.ErrForm: api.ErrForm, api.ErrArg: api.ErrArg, api.ErrOrder: api.ErrOrder, -5: -5, 999: 999} {
			behind := false
			got := pack.Read(b, func(r *pack.Reader) {
				r.Fail(e)
				behind = true
			})
			if got != want || behind {
				t.Errorf("Fail(%d) = %d, run behind it: %v", e, got, behind)
			}
		}
	}
	if e := pack.Read([]byte{0}, func(r *pack.Reader) {
		r.Flag()
		r.Fail(api.ErrKey)
	}); e != api.ErrKey {
		t.Errorf("Fail behind all bytes = %d", e)
	}
}

// P3.1: f that recovers what ends it has failed all the same, with its first error.
func TestFailureThatIsRecovered(t *testing.T) {
	if e := pack.Read(nil, func(r *pack.Reader) {
		defer func() { recover() }()
		r.Num()
	}); e != api.ErrForm {
		t.Errorf("a value that isn't there, recovered = %d", e)
	}
	var more []int
	e := pack.Read([]byte{0, 0, 0}, func(r *pack.Reader) {
		for i, f := range []func(){func() { r.Fail(api.ErrOrder) }, func() { r.Fail(api.ErrKey) }, func() { r.Num() }, func() { r.Flag() }, func() { r.Count(9) }, func() { r.Bytes() }} {
			func() {
				defer func() { recover() }()
				f()
				more = append(more, i)
			}()
		}
	})
	if e != api.ErrOrder || len(more) > 0 {
		t.Errorf("two failures, recovered = %d; read on: %v", e, more)
	}
}

// caught is what a call panics with.
func caught(f func()) (p any) {
	defer func() { p = recover() }()
	f()
	return nil
}

// P1, P3.1: a panic of f's own goes on, the same value.
func TestOwnPanicGoesOn(t *testing.T) {
	err := errors.New("mine")
	for _, own := range []any{"mine", 7, err, api.ErrForm, api.OK, [2]int{1, 2}} {
		for _, b := range [][]byte{nil, {1, 2}} {
			if p := caught(func() { pack.Read(b, func(r *pack.Reader) { panic(own) }) }); p != own {
				t.Errorf("%v goes on as %v", own, p)
			}
		}
	}
	if p, ok := caught(func() {
		pack.Read(nil, func(r *pack.Reader) {
			var none []int
			none[len(none)] = 1
		})
	}).(error); !ok || p.Error() != "runtime error: index out of range [0] with length 0" {
		t.Errorf("an index out of range goes on as %v", p)
	}
	if p := caught(func() {
		pack.Read(nil, func(r *pack.Reader) {
			defer func() { panic("mine") }()
			r.Num()
		})
	}); p != "mine" {
		t.Errorf("a panic behind a failure goes on as %v", p)
	}
}

// P3.1: a Reader's failure ends its own Read, through another one's function.
func TestReadWithinRead(t *testing.T) {
	inner, behind := api.Errno(-1), false
	e := pack.Read([]byte{0}, func(r *pack.Reader) {
		inner = pack.Read([]byte{1, 2}, func(s *pack.Reader) {
			s.Flag()
			r.Fail(api.ErrSpan)
		})
		behind = true
	})
	if e != api.ErrSpan || inner != -1 || behind {
		t.Errorf("the outer one's failure: %d, %d, %v", e, inner, behind)
	}
	e = pack.Read([]byte{1, 0}, func(r *pack.Reader) {
		r.Flag()
		inner = pack.Read([]byte{2}, func(s *pack.Reader) { s.Flag() })
		r.Flag()
	})
	if e != api.OK || inner != api.ErrForm {
		t.Errorf("the inner one's failure: %d, %d", e, inner)
	}
}

// P1: a function that isn't there reads nothing.
func TestReadWithoutFunction(t *testing.T) {
	for want, b := range map[api.Errno][]byte{api.OK: nil, api.ErrForm: {0}} {
		if p := caught(func() {
			if e := pack.Read(b, nil); e != want {
				t.Errorf("no function: %d, not %d", e, want)
			}
		}); p != nil {
			t.Errorf("no function panics with %v", p)
		}
	}
}

// P3.4: behind its Read, however that ended, a Reader tells nothing of the bytes, and doesn't panic.
func TestReaderBehindItsRead(t *testing.T) {
	b := sample(t)
	for name, f := range map[string]func(r *pack.Reader){
		"at once": func(r *pack.Reader) {},
		"midway":  func(r *pack.Reader) { r.Num() },
		"failed":  func(r *pack.Reader) { r.Fail(api.ErrKey) },
		"ended":   func(r *pack.Reader) { r.Count(0) },
		"panic":   func(r *pack.Reader) { panic("mine") },
	} {
		var kept *pack.Reader
		caught(func() {
			pack.Read(b, func(r *pack.Reader) {
				kept = r
				f(r)
			})
		})
		p := caught(func() {
			kept.Fail(api.ErrKey)
			kept.Fail(api.OK)
			if kept.Num() != 0 || kept.Key() != 0 || len(kept.Bytes()) != 0 || kept.Flag() || kept.Count(9) != 0 || kept.Count(-1) != 0 {
				t.Errorf("%s: a Reader reads behind its Read", name)
			}
			if e := pack.Read([]byte{1}, func(r *pack.Reader) { kept.Fail(api.ErrKey); kept.Num(); r.Flag() }); e != api.OK {
				t.Errorf("%s: a Reader of another Read fails this one: %d", name, e)
			}
		})
		if p != nil {
			t.Errorf("%s: a Reader panics behind its Read: %v", name, p)
		}
	}
}

// P3.4
func TestReadBytesAreNewMemory(t *testing.T) {
	b := append(mustPut(t, pack.Val{Kind: pack.Bytes, B: []byte{1, 2, 3}}, pack.Val{Kind: pack.Bytes, B: []byte{4, 5}}), 99)
	want := slices.Clone(b)
	var first, second []byte
	e := pack.Read(b[:len(b)-1], func(r *pack.Reader) { first, second = r.Bytes(), r.Bytes() })
	if e != api.OK || !bytes.Equal(b, want) {
		t.Fatalf("read %v of %v, %d", first, b, e)
	}
	spoil(first)
	if !bytes.Equal(b, want) || !bytes.Equal(second, []byte{4, 5}) {
		t.Error("the Reader's bytes share with others")
	}
	spoil(b)
	if !bytes.Equal(second, []byte{4, 5}) {
		t.Error("the Reader's bytes share with the argument")
	}
}
