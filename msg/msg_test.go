package msg_test

import (
	"bytes"
	"math"
	"math/rand/v2"
	"slices"
	"testing"

	"quillet/api"
	"quillet/msg"
)

// P17.1: the chapter's example, with its frame written out.
func TestExample(t *testing.T) {
	say := api.Msg{Kind: api.Say, From: 1, To: 2, Term: 3, Ok: true}
	b, code := msg.Encode(say)
	if code != api.OK || !bytes.Equal(b[8:], []byte{8, 2, 4, 6, 1}) || !bytes.Equal(b[:4], []byte{5, 0, 0, 0}) {
		t.Errorf("a Say is %v, %d", b, code)
	}
	if m, code := msg.Decode(b); code != api.OK || !equal(m, say) {
		t.Errorf("and leads back to %v, %d", m, code)
	}
}

// P17.1: each kind's form, written out.
func TestForms(t *testing.T) {
	for _, x := range []struct {
		m       api.Msg
		payload []byte
	}{
		{api.Msg{Kind: api.PreAsk, From: 1, To: 7, Term: 64, Index: 4, LogTerm: 2}, []byte{2, 2, 14, 128, 1, 8, 4}},
		{api.Msg{Kind: api.PreSay, From: 7, To: 1, Term: 1}, []byte{4, 14, 2, 2, 0}},
		{api.Msg{Kind: api.Ask, From: 2, To: 3, Term: 5}, []byte{6, 4, 6, 10, 0, 0}},
		{api.Msg{Kind: api.Say, From: 2, To: 3, Term: 5, Ok: true}, []byte{8, 4, 6, 10, 1}},
		{api.Msg{Kind: api.Append, From: 3, To: 1, Term: 9, Index: 4, LogTerm: 2, Commit: 5}, []byte{10, 6, 2, 18, 8, 4, 10, 0}},
		{
			api.Msg{Kind: api.Append, From: 3, To: 1, Term: 9, Index: 4, LogTerm: 2, Commit: 5, Entries: []api.Entry{{Index: 5, Term: 2, Kind: 1, Data: []byte("xy")}, {Index: 6, Term: 9, Kind: 2}}},
			[]byte{10, 6, 2, 18, 8, 4, 10, 4, 4, 2, 4, 'x', 'y', 18, 4, 0},
		},
		{api.Msg{Kind: api.Got, From: 1, To: 2, Term: 1, Index: 7, Ok: true}, []byte{12, 2, 4, 2, 14, 1}},
		{
			api.Msg{Kind: api.Piece, From: 1, To: 2, Term: 1, Index: 7, LogTerm: 1, Off: 64, Data: []byte("ab"), Last: true, Conf: api.Conf{Voters: []int{1, 2}, Learners: []int{5}}},
			[]byte{14, 2, 4, 2, 14, 2, 128, 1, 4, 'a', 'b', 1, 10, 4, 2, 4, 2, 10},
		},
		{api.Msg{Kind: api.Took, From: 1, To: 2, Term: 1, Index: 7, Off: 2, Last: true}, []byte{16, 2, 4, 2, 14, 4, 1}},
	} {
		if b, code := msg.Encode(x.m); code != api.OK || !bytes.Equal(b[8:], x.payload) {
			t.Errorf("Encode(%v) = %v, %d", x.m, b, code)
		}
		if m, code := msg.Decode(frame(x.payload)); code != api.OK || !equal(m, x.m) {
			t.Errorf("Decode(%v) = %v, %d", x.payload, m, code)
		}
	}
}

// P17.1, P17.2: right messages of every kind.
func TestSamples(t *testing.T) {
	for _, m := range samples() {
		if code := asks(t, m); code != api.OK {
			t.Errorf("Encode(%v) = %d", m, code)
		}
	}
}

// turns are changes of one thing each of a message.
func turns() []func(m *api.Msg) {
	var out []func(m *api.Msg)
	add := func(f func(m *api.Msg)) { out = append(out, f) }
	for _, n := range edges() {
		add(func(m *api.Msg) { m.Kind = int(n) })
		add(func(m *api.Msg) { m.From = int(n) })
		add(func(m *api.Msg) { m.To = int(n) })
		add(func(m *api.Msg) { m.Term = n })
		add(func(m *api.Msg) { m.Index = n })
		add(func(m *api.Msg) { m.LogTerm = n })
		add(func(m *api.Msg) { m.Commit = n })
		add(func(m *api.Msg) { m.Off = n })
	}
	for kind := range 10 {
		add(func(m *api.Msg) { m.Kind = kind })
	}
	add(func(m *api.Msg) { m.To = m.From })
	add(func(m *api.Msg) { m.From = m.To })
	add(func(m *api.Msg) { m.Ok = !m.Ok })
	add(func(m *api.Msg) { m.Last = !m.Last })
	for _, n := range []int{0, 1, 63, 64, 65, 2048, 4096, 4097} {
		add(func(m *api.Msg) { m.Data = make([]byte, n) })
	}
	for _, c := range []api.Conf{
		{}, {Voters: []int{}, Learners: []int{}}, {Voters: []int{1}}, {Voters: []int{1, 2}, Learners: []int{7}}, {Learners: []int{1}},
		{Voters: []int{8}}, {Voters: []int{0}}, {Voters: []int{2, 1}}, {Voters: []int{1}, Learners: []int{1}}, {Voters: []int{1}, Learners: []int{3, 2}},
	} {
		add(func(m *api.Msg) { m.Conf = c })
	}
	return append(out, entryTurns()...)
}

// entryTurns are changes of a message's entries.
func entryTurns() []func(m *api.Msg) {
	out := []func(m *api.Msg){
		func(m *api.Msg) { m.Entries = nil },
		func(m *api.Msg) { m.Entries = []api.Entry{} },
	}
	for _, n := range []int{1, 2, 7, 8, 9, 20} {
		out = append(out, func(m *api.Msg) {
			m.Entries = nil
			for i := range n {
				m.Entries = append(m.Entries, api.Entry{Index: m.Index + 1 + int64(i), Term: m.Term})
			}
		})
	}
	one := func(change func(e *api.Entry, m *api.Msg)) {
		for at := range 3 {
			out = append(out, func(m *api.Msg) {
				es := slices.Clone(m.Entries)
				if at < len(es) {
					change(&es[at], m)
				}
				m.Entries = es
			})
		}
	}
	for _, n := range []int64{-1, 1, math.MaxInt64} {
		one(func(e *api.Entry, m *api.Msg) { e.Index += n })
		one(func(e *api.Entry, m *api.Msg) { e.Term += n })
		one(func(e *api.Entry, m *api.Msg) { e.Term = m.Term + n })
		one(func(e *api.Entry, m *api.Msg) { e.Term = m.LogTerm + n })
	}
	for _, kind := range []int{-1, 0, 1, 2, 3, 1 << 32, math.MaxInt, math.MinInt} {
		one(func(e *api.Entry, m *api.Msg) { e.Kind = kind })
	}
	for _, n := range []int{0, 2047, 2048, 2049, 4097} {
		one(func(e *api.Entry, m *api.Msg) { e.Data = make([]byte, n) })
	}
	one(func(e *api.Entry, m *api.Msg) { e.Term = m.Term })
	one(func(e *api.Entry, m *api.Msg) { e.Term = m.LogTerm })
	return out
}

// P17.1: every sample with every one change, and the first sample of each kind with every two.
func TestTurned(t *testing.T) {
	ways := turns()
	count := map[api.Errno]int{}
	for _, good := range samples() {
		for _, first := range ways {
			m := good
			first(&m)
			count[asks(t, m)]++
		}
	}
	kinds := map[int]bool{}
	for _, good := range samples() {
		if kinds[good.Kind] {
			continue
		}
		kinds[good.Kind] = true
		for _, first := range ways {
			for _, second := range ways {
				m := good
				first(&m)
				second(&m)
				count[asks(t, m)]++
			}
		}
	}
	if len(kinds) != 8 {
		t.Errorf("of two changes are the kinds %v alone", kinds)
	}
	if count[api.OK] < 10000 || count[api.ErrArg] < 10000 || count[api.ErrLong] < 20 {
		t.Errorf("too few of one kind: %v", count)
	}
}

// P17.1: what a kind doesn't name is zero: for each kind, each field that is set alone.
func TestNames(t *testing.T) {
	set := map[string]func(m *api.Msg){
		"Index":   func(m *api.Msg) { m.Index++ },
		"LogTerm": func(m *api.Msg) { m.LogTerm = 1 },
		"Commit":  func(m *api.Msg) { m.Commit = 1 },
		"Ok":      func(m *api.Msg) { m.Ok = true },
		"Entries": func(m *api.Msg) { m.Entries = []api.Entry{{Index: m.Index + 1, Term: 1}} },
		"Off":     func(m *api.Msg) { m.Off = 1 },
		"Data":    func(m *api.Msg) { m.Data = []byte{0} },
		"Last":    func(m *api.Msg) { m.Last = true },
		"Conf":    func(m *api.Msg) { m.Conf = api.Conf{Voters: []int{2}} },
	}
	for kind, names := range map[int][]string{
		api.PreAsk: {"Index", "LogTerm"}, api.PreSay: {"Ok"}, api.Ask: {"Index", "LogTerm"}, api.Say: {"Ok"},
		api.Append: {"Index", "LogTerm", "Commit", "Entries"}, api.Got: {"Index", "Ok"},
		api.Piece: {"Index", "LogTerm", "Off", "Data", "Last", "Conf"}, api.Took: {"Index", "Off", "Last"},
	} {
		for field, change := range set {
			m := api.Msg{Kind: kind, From: 1, To: 2, Term: 3}
			if kind >= api.Piece {
				m.Index = 1
			}
			if kind == api.Piece {
				m.Conf = api.Conf{Voters: []int{1}}
			}
			if code := asks(t, m); code != api.OK {
				t.Fatalf("%v: %d", m, code)
			}
			change(&m)
			if code := asks(t, m); (code == api.OK) != slices.Contains(names, field) {
				t.Errorf("%s of kind %d: %d", field, kind, code)
			}
		}
	}
}

// P17.1: every short list of entries of few numbers, behind few ones.
func TestEntries(t *testing.T) {
	right, wrong := 0, 0
	var grow func(m api.Msg)
	grow = func(m api.Msg) {
		if asks(t, m) == api.OK {
			right++
		} else {
			wrong++
		}
		if len(m.Entries) == 3 {
			return
		}
		for step := int64(0); step <= 2; step++ {
			for term := int64(-1); term <= 3; term++ {
				e := api.Entry{Index: m.Index + int64(len(m.Entries)) + step, Term: term}
				next := m
				next.Entries = append(slices.Clone(m.Entries), e)
				grow(next)
			}
		}
	}
	for _, index := range []int64{-1, 0, 1, top - 1, top} {
		for logTerm := int64(0); logTerm <= 3; logTerm++ {
			grow(api.Msg{Kind: api.Append, From: 1, To: 2, Term: 2, Index: index, LogTerm: logTerm})
		}
	}
	if right < 50 || wrong < 10000 {
		t.Errorf("%d are right, %d wrong", right, wrong)
	}
}

// P17.1: a payload of just as many bytes as may be, and of one more.
func TestLong(t *testing.T) {
	of := func(last int) api.Msg {
		es := []api.Entry{{Index: 1, Term: 1, Data: make([]byte, 2048)}, {Index: 2, Term: 1, Data: make([]byte, last)}}
		return api.Msg{Kind: api.Append, From: 1, To: 2, Term: 1, Entries: es}
	}
	// Eight numbers of a byte; of each entry two more, and two for its length.
	const fits = 4096 - 8 - 2*4 - 2048
	for size, code := range map[int]api.Errno{fits - 1: api.OK, fits: api.OK, fits + 1: api.ErrLong, 2048: api.ErrLong, 2049: api.ErrArg} {
		if got := asks(t, of(size)); got != code {
			t.Errorf("%d bytes behind 2048: %d, not %d", size, got, code)
		}
		if m := of(size); msg.Same(m, m) != (size <= 2048) {
			t.Errorf("%d bytes behind 2048: not the same", size)
		}
	}
	a, b := of(2048), of(2048)
	b.Entries[1].Data[2047] = 1
	if msg.Same(a, b) || !msg.Same(a, of(2048)) {
		t.Error("Same of messages that are too long to encode")
	}
	full := frame(form(of(fits)))
	if len(full) != 8+4096 || !decodes(t, full) {
		t.Errorf("a frame of %d bytes", len(full))
	}
	if decodes(t, frame(form(of(fits+1)))) {
		t.Error("one byte more is taken")
	}
}

// P17.1: what isn't right is told ahead of what is too long.
func TestOrderOfErrors(t *testing.T) {
	m := api.Msg{Kind: api.Append, From: 1, To: 2, Term: 1}
	for i := range int64(8) {
		m.Entries = append(m.Entries, api.Entry{Index: i + 1, Term: 1, Data: make([]byte, 2048)})
	}
	if code := asks(t, m); code != api.ErrLong {
		t.Errorf("too long: %d", code)
	}
	for _, change := range []func(){func() { m.Entries[7].Kind = 3 }, func() { m.Entries[7].Kind = 0; m.Off = 1 }, func() { m.Off = 0; m.To = 1 }} {
		change()
		if code := asks(t, m); code != api.ErrArg {
			t.Errorf("not right, and too long: %d", code)
		}
	}
}

// P17.1: lists far beyond what may be, of every kind.
func TestHuge(t *testing.T) {
	for _, good := range samples() {
		for _, change := range []func(m *api.Msg){
			func(m *api.Msg) { m.Entries = make([]api.Entry, 1<<20) },
			func(m *api.Msg) { m.Data = make([]byte, 1<<24) },
			func(m *api.Msg) { m.Conf.Voters = make([]int, 1<<20) },
			func(m *api.Msg) { m.Conf.Learners = make([]int, 1<<20) },
			func(m *api.Msg) {
				m.Entries = []api.Entry{{Index: m.Index + 1, Term: m.LogTerm, Data: make([]byte, 1<<24)}}
			},
		} {
			m := good
			change(&m)
			if code := asks(t, m); code != api.ErrArg {
				t.Errorf("kind %d: %d", m.Kind, code)
			}
		}
	}
}

// P17.1: Same of many twos, of which each has its neighbour and others that are drawn.
func TestSame(t *testing.T) {
	pool := samples()
	for _, good := range samples() {
		for i, change := range turns() {
			if i%7 == 0 || i > 200 {
				m := good
				change(&m)
				pool = append(pool, m)
			}
		}
	}
	d := rand.New(rand.NewPCG(17, 1))
	same, other := 0, 0
	for i, a := range pool {
		for k := range 100 {
			b := pool[d.IntN(len(pool))]
			if k == 0 {
				b = pool[(i+1)%len(pool)]
			}
			want := saidRight(a) && saidRight(b) && equal(a, b)
			if msg.Same(a, b) != want || msg.Same(b, a) != want {
				t.Fatalf("Same(%v, %v) isn't %v", a, b, want)
			}
			if want {
				same++
			} else {
				other++
			}
		}
	}
	if same < 500 || other < 1000 {
		t.Errorf("%d are the same, %d others", same, other)
	}
}

// P17.1: each single difference of two right messages is seen.
func TestSameOneDifference(t *testing.T) {
	seen := 0
	for _, a := range samples() {
		for _, change := range turns() {
			b := a
			change(&b)
			if !saidRight(b) {
				if msg.Same(a, b) || msg.Same(b, a) || msg.Same(b, b) {
					t.Fatalf("Same of %v, which isn't right", b)
				}
				continue
			}
			if msg.Same(a, b) != equal(a, b) || msg.Same(b, a) != equal(a, b) {
				t.Fatalf("Same(%v, %v) = %v", a, b, !equal(a, b))
			}
			seen++
		}
	}
	if seen < 500 {
		t.Errorf("%d alone were right", seen)
	}
}

// P17.1: a list that is nil and one that is empty are the same thing.
func TestNilIsEmpty(t *testing.T) {
	for _, m := range samples() {
		n := m
		fill := func(b *[]byte) {
			if len(*b) == 0 {
				*b = []byte{}
			}
		}
		fill(&n.Data)
		if len(n.Entries) == 0 {
			n.Entries = []api.Entry{}
		}
		n.Entries = slices.Clone(n.Entries)
		for i := range n.Entries {
			fill(&n.Entries[i].Data)
		}
		if len(n.Conf.Voters) == 0 {
			n.Conf.Voters = []int{}
		}
		if len(n.Conf.Learners) == 0 {
			n.Conf.Learners = []int{}
		}
		asks(t, n)
		a, _ := msg.Encode(m)
		b, _ := msg.Encode(n)
		if !msg.Same(m, n) || !bytes.Equal(a, b) {
			t.Errorf("%v and %v", m, n)
		}
	}
}
