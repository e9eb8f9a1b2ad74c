package cert_test

import (
	"cmp"
	"encoding/binary"
	"maps"
	"math"
	"slices"

	"quillet/api"
	"quillet/cert"
	"quillet/sub"
)

var (
	inf   = math.Inf(1)
	zero  = math.Copysign(0, -1)
	least = math.SmallestNonzeroFloat64
)

func up(x float64) float64   { return math.Nextafter(x, inf) }
func down(x float64) float64 { return math.Nextafter(x, -inf) }

func shut(lo, hi float64) api.Span { return api.Span{Lo: lo, Hi: hi} }

// r, w and sp are what a submission reads by Reads, writes, and reads by Spans.
func r(keys ...float64) part    { return func(s *api.Sub) { s.Reads = keys } }
func w(keys ...float64) part    { return func(s *api.Sub) { s.Writes = keys } }
func sp(spans ...api.Span) part { return func(s *api.Sub) { s.Spans = spans } }

type part func(s *api.Sub)

// on is a submission with that Snap.
func on(snap int64, parts ...part) api.Sub {
	s := api.Sub{Session: 3, Seq: 5, Snap: snap}
	for _, p := range parts {
		p(&s)
	}
	return s
}

// reads says whether a submission reads a key; writes, whether it writes it.
func reads(s api.Sub, key float64) bool {
	for _, x := range s.Spans {
		if x.Lo <= key && key <= x.Hi { // a right one is closed
			return true
		}
	}
	return slices.Contains(s.Reads, key)
}

func writes(s api.Sub, key float64) bool { return slices.Contains(s.Writes, key) }

// ahead says whether a comes ahead of b by reading: of two that are beside each other.
func ahead(a, b api.Sub) bool {
	for _, key := range b.Writes {
		if reads(a, key) {
			return true
		}
	}
	return false
}

// whole is a recent one: its submission and its mark; its number hangs on its place.
type whole struct {
	s   api.Sub
	out bool
}

// said is what a Cert does by the document's words; its tables are maps.
type said struct {
	keep, old      int
	count, horizon int64
	recent         []whole
	tables         [3]map[float64]int64 // writers, those with the mark, readers
	spans          map[api.Span]int64
}

func saidNew(c cert.Conf) *said {
	s := &said{keep: c.Keep, old: c.Old}
	if s.keep < 1 {
		s.keep = 1
	}
	if s.keep > 32 {
		s.keep = 32
	}
	if s.old < 0 {
		s.old = 0
	}
	if s.old > 64 {
		s.old = 64
	}
	s.empty()
	return s
}

func (s *said) empty() {
	s.tables = [3]map[float64]int64{{}, {}, {}}
	s.spans = map[api.Span]int64{}
}

func (s *said) num(place int) int64 { return s.count - int64(len(s.recent)) + int64(place) + 1 }

func (s *said) decide(x api.Sub) api.Verdict {
	if e := sub.Check(x); e != api.OK {
		return api.Verdict{Code: e}
	}
	if s.count == 1<<40 {
		return api.Verdict{Code: api.ErrMany}
	}
	if x.Snap > s.count {
		return api.Verdict{Code: api.ErrYoung}
	}
	if x.Snap < s.horizon {
		return api.Verdict{Code: api.ErrOld}
	}
	if s.written(x) {
		return api.Verdict{Code: api.ErrWrite}
	}
	of, marked := s.comesAheadOf(x)
	before := s.comeAheadOf(x)
	if marked || len(of) > 0 && len(before) > 0 && slices.Min(of) <= slices.Max(before) {
		return api.Verdict{Code: api.ErrDanger}
	}
	s.commit(x, len(of) > 0)
	return api.Verdict{Num: s.count}
}

// beside are the places of the recent ones beside a submission.
func (s *said) beside(x api.Sub) []int {
	var places []int
	for i := range s.recent {
		if s.num(i) > x.Snap {
			places = append(places, i)
		}
	}
	return places
}

func (s *said) written(x api.Sub) bool {
	for _, key := range x.Writes {
		if s.tables[0][key] > x.Snap {
			return true
		}
		for _, i := range s.beside(x) {
			if writes(s.recent[i].s, key) {
				return true
			}
		}
	}
	return false
}

// comesAheadOf is the numbers of those that x comes ahead of by reading, and whether one of them has the mark.
func (s *said) comesAheadOf(x api.Sub) (nums []int64, marked bool) {
	for _, i := range s.beside(x) {
		if ahead(x, s.recent[i].s) {
			nums = append(nums, s.num(i))
			marked = marked || s.recent[i].out
		}
	}
	for key, n := range s.tables[0] {
		if reads(x, key) && n > x.Snap {
			nums = append(nums, x.Snap+1)
		}
	}
	for key, n := range s.tables[1] {
		if reads(x, key) && n > x.Snap {
			marked = true
		}
	}
	return nums, marked
}

// comeAheadOf is the numbers of those that come ahead of x by reading.
func (s *said) comeAheadOf(x api.Sub) (nums []int64) {
	for _, i := range s.beside(x) {
		if ahead(s.recent[i].s, x) {
			nums = append(nums, s.num(i))
		}
	}
	for _, key := range x.Writes {
		if n := s.tables[2][key]; n > x.Snap {
			nums = append(nums, n)
		}
		for f, n := range s.spans {
			if f.Lo <= key && key <= f.Hi && n > x.Snap {
				nums = append(nums, n)
			}
		}
	}
	return nums
}

func (s *said) commit(x api.Sub, out bool) {
	s.count++
	s.recent = append(s.recent, whole{cloned(x), out})
	if len(s.recent) <= s.keep {
		return
	}
	n, gone := s.num(0), s.recent[0]
	s.recent = slices.Clone(s.recent[1:])
	for _, key := range gone.s.Writes {
		s.tables[0][key] = n
		if gone.out {
			s.tables[1][key] = n
		}
	}
	for _, key := range gone.s.Reads {
		s.tables[2][key] = n
	}
	for _, f := range gone.s.Spans {
		s.spans[f] = n
	}
	if max(len(s.tables[0]), len(s.tables[1]), len(s.tables[2]), len(s.spans)) > s.old {
		s.empty()
		s.horizon = n
	}
}

func cloned(x api.Sub) api.Sub {
	x.Reads, x.Spans, x.Writes = slices.Clone(x.Reads), slices.Clone(x.Spans), slices.Clone(x.Writes)
	return x
}

func (s *said) dones() []api.Done {
	var out []api.Done
	for i, x := range s.recent {
		out = append(out, api.Done{Num: s.num(i), Sub: x.s})
	}
	return out
}

// image is what the document says that bytes are made of; it may be wrong.
type image struct {
	count, horizon int64
	recent         []piece
	tables         [3][]entry
	spans          []entry // with hi
}

type piece struct {
	flag  byte
	bytes []byte
}

type entry struct {
	key, hi uint64 // codes
	num     int64
}

func at(key float64, n int64) entry        { return entry{key: code(key), num: n} }
func over(lo, hi float64, n int64) entry   { return entry{key: code(lo), hi: code(hi), num: n} }
func marked(s api.Sub) piece               { return piece{1, subBytes(s)} }
func plain(s api.Sub) piece                { return piece{0, subBytes(s)} }
func appendNum(out []byte, n int64) []byte { return binary.AppendVarint(out, n) }

// code is a number's, by the words of layer 1; of -0 what it would be.
func code(x float64) uint64 {
	u := math.Float64bits(x)
	switch {
	case x != x:
		return 0
	case u>>63 == 0:
		return u | 1<<63
	}
	return ^u
}

// subBytes are a submission's, by the words of layer 4, whether it is right or not.
func subBytes(s api.Sub) []byte {
	b := appendNum(appendNum(appendNum(nil, s.Session), s.Seq), s.Snap)
	b = appendKeys(b, s.Reads)
	b = appendNum(b, int64(len(s.Spans)))
	for _, x := range s.Spans {
		b = binary.BigEndian.AppendUint64(b, code(x.Lo))
		b = binary.BigEndian.AppendUint64(b, code(x.Hi))
	}
	return appendKeys(b, s.Writes)
}

func appendKeys(b []byte, keys []float64) []byte {
	b = appendNum(b, int64(len(keys)))
	for _, key := range keys {
		b = binary.BigEndian.AppendUint64(b, code(key))
	}
	return b
}

func (m image) bytes() []byte {
	b := appendNum(appendNum(nil, m.count), m.horizon)
	b = appendNum(b, int64(len(m.recent)))
	for _, x := range m.recent {
		b = append(b, x.flag)
		b = append(appendNum(b, int64(len(x.bytes))), x.bytes...)
	}
	for i, table := range append(slices.Clone(m.tables[:]), m.spans) {
		b = appendNum(b, int64(len(table)))
		for _, e := range table {
			b = binary.BigEndian.AppendUint64(b, e.key)
			if i == 3 {
				b = binary.BigEndian.AppendUint64(b, e.hi)
			}
			b = appendNum(b, e.num)
		}
	}
	return b
}

// image is what is to be told of a said.
func (s *said) image() image {
	m := image{count: s.count, horizon: s.horizon}
	for _, x := range s.recent {
		if x.out {
			m.recent = append(m.recent, marked(x.s))
		} else {
			m.recent = append(m.recent, plain(x.s))
		}
	}
	for i, table := range s.tables {
		for _, key := range slices.Sorted(maps.Keys(table)) {
			m.tables[i] = append(m.tables[i], at(key, table[key]))
		}
	}
	for _, f := range slices.SortedFunc(maps.Keys(s.spans), spanOrder) {
		m.spans = append(m.spans, over(f.Lo, f.Hi, s.spans[f]))
	}
	return m
}

func spanOrder(a, b api.Span) int { return cmp.Or(cmp.Compare(a.Lo, b.Lo), cmp.Compare(a.Hi, b.Hi)) }

// scan reads bytes; bad: something wasn't there.
type scan struct {
	b   []byte
	bad bool
}

func (c *scan) take(n int) []byte {
	if c.bad || n > len(c.b) {
		c.bad = true
		return make([]byte, min(n, 8))
	}
	out := c.b[:n]
	c.b = c.b[n:]
	return out
}

func (c *scan) num() int64 {
	n, size := binary.Varint(c.b)
	if c.bad || size <= 0 || size != len(appendNum(nil, n)) {
		c.bad = true
		return 0
	}
	c.b = c.b[size:]
	return n
}

// key is a number that isn't NaN, in its form.
func (c *scan) key() float64 {
	u := binary.BigEndian.Uint64(c.take(8))
	x := math.Float64frombits(u &^ (1 << 63))
	if u>>63 == 0 {
		x = math.Float64frombits(^u)
	}
	c.need(x == x && u != 1<<63-1)
	return x
}

func (c *scan) need(ok bool) { c.bad = c.bad || !ok }

// many is how many there are, of at most some.
func (c *scan) many(most int64) int {
	n := c.num()
	c.need(0 <= n && n <= most)
	if c.bad {
		return 0
	}
	return int(n)
}

// saidLoad is the said of bytes, by the document's words; nil: they aren't that.
func saidLoad(conf cert.Conf, b []byte) *said {
	s, c := saidNew(conf), &scan{b: b}
	s.count, s.horizon = c.num(), c.num()
	c.need(s.count >= 0 && s.count <= 1<<40 && s.horizon >= 0 && s.horizon <= s.count)
	for range c.many(min(int64(s.keep), s.count-s.horizon)) {
		flag := c.take(1)[0]
		x, e := sub.Decode(c.take(c.many(4096)))
		c.need(flag < 2 && e == api.OK)
		s.recent = append(s.recent, whole{x, flag == 1})
	}
	for i, x := range s.recent {
		c.need(x.s.Snap < s.num(i))
	}
	for _, table := range s.tables {
		for i, last := c.many(int64(s.old)), 0.0; i > 0; i-- {
			key, n := c.key(), c.num()
			c.need((len(table) == 0 || last < key) && s.between(n))
			table[key], last = n, key
		}
	}
	last := api.Span{}
	for range c.many(int64(s.old)) {
		f := shut(c.key(), c.key())
		n := c.num()
		c.need(f.Lo <= f.Hi && (len(s.spans) == 0 || spanOrder(last, f) < 0) && s.between(n))
		s.spans[f], last = n, f
	}
	if c.bad || len(c.b) > 0 {
		return nil
	}
	return s
}

// between says whether a number may be in the summary.
func (s *said) between(n int64) bool {
	return len(s.recent) > 0 && n >= 1 && n <= 1<<40 && n > s.horizon && n < s.num(0)
}
