package client_test

import (
	"bytes"
	"encoding/binary"
	"math"
	"slices"
	"testing"

	"quillet/api"
	"quillet/client"
)

const top = int64(1) << 40

// said is a Client by the document's words: it forgets nothing that was added, and looks for what wasn't answered.
type said struct {
	session int64
	members []int
	target  int
	added   []api.Sub // the one of number n stands at n - 1, as its bytes should tell it
	results []client.Result
}

// saidNew takes the members as they should be: the tests write them out.
func saidNew(session int64, members []int) *said {
	return &said{session: session, members: members, target: members[0]}
}

func (s *said) answered(seq int64) bool {
	for _, r := range s.results {
		if r.Seq == seq {
			return true
		}
	}
	return false
}

func (s *said) isOpen(seq int64) bool {
	return 1 <= seq && seq <= int64(len(s.added)) && !s.answered(seq)
}

func (s *said) open() []int64 {
	var out []int64
	for n := range s.added {
		if s.isOpen(int64(n + 1)) {
			out = append(out, int64(n+1))
		}
	}
	return out
}

func (s *said) add(w wish) (int64, api.Errno) {
	next := int64(len(s.added)) + 1
	if open := s.open(); len(open) > 0 && next >= open[0]+8 {
		return 0, 3
	}
	if s.session < 1 || s.session > top {
		return 0, 43
	}
	if w.code != api.OK {
		return 0, w.code
	}
	w.want.Session, w.want.Seq = s.session, next
	s.added = append(s.added, w.want)
	return next, api.OK
}

func (s *said) next() (int, []byte, bool) {
	open := s.open()
	if len(open) == 0 {
		return 0, nil, false
	}
	return s.target, sayBytes(s.added[open[0]-1]), true
}

func (s *said) heard(seq int64, v api.Verdict, e api.Errno, lead int) {
	if !s.isOpen(seq) {
		return
	}
	if e == 0 {
		s.results = append(s.results, client.Result{Seq: seq, Verdict: v})
		return
	}
	if e == 180 {
		for _, m := range s.members {
			if m == lead {
				s.target = m
				return
			}
		}
	}
	if e == 181 {
		return
	}
	for _, m := range s.members {
		if m > s.target {
			s.target = m
			return
		}
	}
	s.target = s.members[0]
}

// putKeys says keys' bytes, by layer 1's words on a key's code.
func putKeys(b []byte, xs ...float64) []byte {
	for _, x := range xs {
		u := math.Float64bits(x)
		if u>>63 == 0 {
			u |= 1 << 63
		} else {
			u = ^u
		}
		b = binary.BigEndian.AppendUint64(b, u)
	}
	return b
}

// sayBytes says a right submission's bytes; the library's varint is the document's number.
func sayBytes(s api.Sub) []byte {
	var b []byte
	for _, n := range []int64{s.Session, s.Seq, s.Snap, int64(len(s.Reads))} {
		b = binary.AppendVarint(b, n)
	}
	b = putKeys(b, s.Reads...)
	b = binary.AppendVarint(b, int64(len(s.Spans)))
	for _, x := range s.Spans {
		b = putKeys(b, x.Lo, x.Hi)
	}
	b = binary.AppendVarint(b, int64(len(s.Writes)))
	return putKeys(b, s.Writes...)
}

// wish is a submission, and what should become of it: another one (Session and Seq left out), or an error.
type wish struct {
	name string
	in   api.Sub
	want api.Sub
	code api.Errno
}

func rising(from, n int) []float64 {
	var out []float64
	for i := range n {
		out = append(out, float64(from+i))
	}
	return out
}

func apart(n int) []api.Span {
	var out []api.Span
	for i := range n {
		out = append(out, api.Span{Lo: float64(2 * i), Hi: float64(2 * i)})
	}
	return out
}

// goodWishes are submissions that may be opened.
func goodWishes() []wish {
	down := math.Nextafter(2, 0)
	minus := math.Copysign(0, -1)
	inf := math.Inf(1)
	twice := slices.Concat(rising(-8, 16), rising(-8, 16))
	return []wish{
		{name: "nothing"},
		{name: "another one's numbers", in: api.Sub{Session: 99, Seq: 99, Snap: 5}, want: api.Sub{Snap: 5}},
		{name: "numbers that can't be", in: api.Sub{Session: -1, Seq: top + 1}},
		{name: "all in order", in: api.Sub{Snap: 1, Reads: []float64{1}, Spans: []api.Span{{Lo: 2, Hi: 3}}, Writes: []float64{4}}, want: api.Sub{Snap: 1, Reads: []float64{1}, Spans: []api.Span{{Lo: 2, Hi: 3}}, Writes: []float64{4}}},
		{name: "keys in no order", in: api.Sub{Snap: top, Reads: []float64{3, 1, 3}, Writes: []float64{5, minus, 0}}, want: api.Sub{Snap: top, Reads: []float64{1, 3}, Writes: []float64{0, 5}}},
		{name: "spans in no order", in: api.Sub{Spans: []api.Span{{Lo: 7, Hi: inf}, {Lo: 2, Hi: 3}, {Lo: 1, Hi: 2, HiOpen: true}}}, want: api.Sub{Spans: []api.Span{{Lo: 1, Hi: 3}, {Lo: 7, Hi: inf}}}},
		{name: "an open span", in: api.Sub{Spans: []api.Span{{Lo: 1, Hi: 2, HiOpen: true}}}, want: api.Sub{Spans: []api.Span{{Lo: 1, Hi: down}}}},
		{name: "an empty span", in: api.Sub{Spans: []api.Span{{Lo: 2, Hi: 1}}, Writes: []float64{1}}, want: api.Sub{Writes: []float64{1}}},
		{name: "as many as may be, each twice", in: api.Sub{Reads: twice, Spans: append(apart(8), apart(8)...), Writes: twice}, want: api.Sub{Reads: rising(-8, 16), Spans: apart(8), Writes: rising(-8, 16)}},
	}
}

// badWishes are submissions of which Canon has an error; where several apply, the first one.
func badWishes() []wish {
	nan := math.NaN()
	wrong := []api.Span{{Lo: nan, Hi: 1}}
	bad := func(name string, code api.Errno, in api.Sub) wish { return wish{name: name, in: in, code: code} }
	return []wish{
		bad("a snapshot below 0", api.ErrName, api.Sub{Snap: -1}),
		bad("a snapshot beyond", api.ErrName, api.Sub{Snap: top + 1}),
		bad("the least snapshot", api.ErrName, api.Sub{Snap: math.MinInt64}),
		bad("too many reads", api.ErrMany, api.Sub{Reads: rising(0, 17)}),
		bad("too many spans", api.ErrMany, api.Sub{Spans: apart(9)}),
		bad("too many writes", api.ErrMany, api.Sub{Writes: rising(0, 17)}),
		bad("far too many", api.ErrMany, api.Sub{Reads: rising(0, 5000), Writes: rising(0, 5000)}),
		bad("a read that is no key", api.ErrKey, api.Sub{Reads: []float64{1, nan}}),
		bad("a write that is no key", api.ErrKey, api.Sub{Writes: []float64{nan}}),
		bad("a wrong span", api.ErrSpan, api.Sub{Spans: wrong}),
		bad("all of it", api.ErrName, api.Sub{Snap: -1, Reads: rising(0, 17), Writes: []float64{nan}, Spans: wrong}),
		bad("all but the numbers", api.ErrMany, api.Sub{Reads: rising(0, 17), Writes: []float64{nan}, Spans: wrong}),
		bad("a key and a span", api.ErrKey, api.Sub{Writes: []float64{nan}, Spans: wrong}),
	}
}

// both is a Client, and what is said of it.
type both struct {
	t      *testing.T
	client *client.Client
	said   *said
}

// newBoth makes a Client of these members, which are those that it should have.
func newBoth(t *testing.T, session int64, members ...int) *both {
	t.Helper()
	b := &both{t, client.New(session, members), saidNew(session, members)}
	b.told("New")
	return b
}

// told holds all that a Client tells by itself against what it should, twice: telling changes nothing.
func (b *both) told(what any) {
	b.t.Helper()
	to, raw, ok := b.said.next()
	open := b.said.open()
	for range 2 {
		if gotTo, got, gotOk := b.client.Next(); gotTo != to || !bytes.Equal(got, raw) || gotOk != ok {
			b.t.Fatalf("%v: Next is %d, %v, %v, not %d, %v, %v", what, gotTo, got, gotOk, to, raw, ok)
		}
		if got := b.client.Open(); !slices.Equal(got, open) {
			b.t.Fatalf("%v: open are %v, not %v", what, got, open)
		}
		if got := b.client.Results(); !slices.Equal(got, b.said.results) {
			b.t.Fatalf("%v: the results are %v, not %v", what, got, b.said.results)
		}
		if got := b.client.Target(); got != b.said.target {
			b.t.Fatalf("%v: the target is %d, not %d", what, got, b.said.target)
		}
	}
}

func (b *both) add(w wish) (int64, api.Errno) {
	b.t.Helper()
	seq, e := b.client.Add(w.in)
	if want, code := b.said.add(w); seq != want || e != code {
		b.t.Fatalf("%s: Add = %d, %d, not %d, %d; open are %v", w.name, seq, e, want, code, b.said.open())
	}
	b.told(w.name)
	return seq, e
}

// adds opens some, which all may be.
func (b *both) adds(n int) {
	b.t.Helper()
	good := goodWishes()
	for i := range n {
		if seq, e := b.add(good[i%len(good)]); e != api.OK {
			b.t.Fatalf("Add = %d, %d", seq, e)
		}
	}
}

func (b *both) heard(seq int64, v api.Verdict, e api.Errno, lead int) {
	b.t.Helper()
	b.client.Heard(seq, v, e, lead)
	b.said.heard(seq, v, e, lead)
	b.told([]any{"Heard", seq, v, e, lead})
}

// answer lets it hear that numbers were decided.
func (b *both) answer(seqs ...int64) {
	b.t.Helper()
	for _, seq := range seqs {
		b.heard(seq, of(seq), api.OK, 0)
	}
}

// of is a verdict that tells whose it is.
func of(seq int64) api.Verdict { return api.Verdict{Code: api.Errno(seq % 7), Num: 1000 + seq} }

// sound asks for P21.2: all numbers are open or have one result, and the open ones are fewer than 8 apart.
func (b *both) sound(last int64) {
	b.t.Helper()
	open := b.client.Open()
	count := map[int64]int{}
	for _, seq := range open {
		count[seq]++
	}
	for _, r := range b.client.Results() {
		count[r.Seq]++
	}
	for seq := int64(1); seq <= last; seq++ {
		if count[seq] != 1 {
			b.t.Fatalf("%d is there %d times", seq, count[seq])
		}
	}
	if int64(len(count)) != last {
		b.t.Fatalf("of %d numbers there are %d", last, len(count))
	}
	if len(open) > 0 && open[len(open)-1]-open[0] >= 8 {
		b.t.Fatalf("%v are open", open)
	}
}
