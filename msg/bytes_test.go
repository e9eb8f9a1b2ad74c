package msg_test

import (
	"bytes"
	"math"
	"math/rand/v2"
	"slices"
	"testing"

	"quillet/api"
	"quillet/msg"
)

// P17.1: frames that end early, and that go on.
func TestCutAndMore(t *testing.T) {
	for _, m := range samples() {
		b := frame(form(m))
		for n := range b {
			if decodes(t, b[:n]) {
				t.Fatalf("%d bytes of %v are taken", n, b)
			}
		}
		for x := range 256 {
			if decodes(t, append(slices.Clone(b), byte(x))) {
				t.Fatalf("%d behind %v is taken", x, b)
			}
		}
		if decodes(t, slices.Concat(b, b)) || decodes(t, slices.Concat(b, make([]byte, 8))) {
			t.Fatalf("two frames are taken as one: %v", b)
		}
	}
	for _, n := range []int{0, 7, 8, 9, 13, 4096, 4104, 4105, 1 << 20} {
		if decodes(t, make([]byte, n)) {
			t.Errorf("%d zeros are taken", n)
		}
	}
	decodes(t, nil)
}

// P17.3: a byte that is turned, at every place; in every way, or in a long frame by each bit and by all.
func TestTurnedByte(t *testing.T) {
	var every []int
	for turn := 1; turn < 256; turn++ {
		every = append(every, turn)
	}
	for _, m := range samples() {
		b, _ := msg.Encode(m)
		ways := every
		if len(b) > 200 {
			ways = []int{1, 2, 4, 8, 16, 32, 64, 128, 255}
		}
		for i := range b {
			for _, turn := range ways {
				c := slices.Clone(b)
				c[i] ^= byte(turn)
				if got, code := msg.Decode(c); code != api.ErrForm || !equal(got, api.Msg{}) {
					t.Fatalf("byte %d of %v turned by %d: %v, %d", i, b, turn, got, code)
				}
			}
		}
	}
}

// P17.1, P17.2: payloads of at most 200 bytes that are cut, longer, or turned at any byte, in frames whose sums are right.
func TestTurnedPayload(t *testing.T) {
	taken, refused := 0, 0
	try := func(payload []byte) {
		if decodes(t, frame(payload)) {
			taken++
		} else {
			refused++
		}
	}
	for _, m := range samples() {
		payload := form(m)
		if len(payload) > 200 {
			continue
		}
		for i := range payload {
			if decodes(t, frame(payload[:i])) {
				t.Fatalf("%d bytes of %v are taken", i, payload)
			}
			try(slices.Delete(slices.Clone(payload), i, i+1))
			try(slices.Insert(slices.Clone(payload), i, 0))
			try(slices.Insert(slices.Clone(payload), i, payload[i]))
			for x := range 256 {
				turned := slices.Clone(payload)
				turned[i] = byte(x)
				try(turned)
			}
		}
		for x := range 256 {
			if decodes(t, frame(append(slices.Clone(payload), byte(x)))) {
				t.Fatalf("%d behind %v is taken", x, payload)
			}
		}
	}
	if taken < 1000 || refused < 10000 {
		t.Errorf("%d were taken, %d refused", taken, refused)
	}
}

// P17.1: the frames of messages that aren't right: each would be one, but for one thing.
func TestFramesOfWrong(t *testing.T) {
	taken, refused := 0, 0
	for _, good := range samples() {
		for _, change := range turns() {
			m := good
			change(&m)
			b := form(m)
			if len(b) > 4096 {
				continue
			}
			// What a kind doesn't name isn't among its bytes, nor are the entries' indexes: the bytes may be another one's.
			if decodes(t, frame(b)) {
				taken++
			} else {
				refused++
			}
		}
	}
	if taken < 1000 || refused < 1000 {
		t.Errorf("%d were taken, %d refused", taken, refused)
	}
}

// nums are numbers' bytes.
func nums(ns ...int64) []byte {
	var b []byte
	for _, n := range ns {
		b = putNum(b, n)
	}
	return b
}

// P17.1: right numbers in another form, flags that are none, counts that are too great or below 0, and a wrong configuration's bytes.
func TestOtherForms(t *testing.T) {
	head := nums(7, 1, 2, 1, 7, 1, 0)
	piece := func(conf ...byte) []byte { return slices.Concat(head, []byte{0, 0}, putBytes(nil, conf)) }
	if !decodes(t, frame(piece(2, 2, 0))) {
		t.Fatal("a Piece as it should be isn't taken")
	}
	for _, payload := range [][]byte{
		{0x88, 0, 2, 4, 6, 1}, {8, 0x82, 0, 4, 6, 1}, {8, 2, 0x84, 0, 6, 1}, {8, 2, 4, 0x86, 0, 1},
		{8, 2, 4, 6, 2}, {8, 2, 4, 6, 255}, {8, 2, 4, 6, 0x81, 0},
		{12, 2, 4, 2, 14, 2}, {16, 2, 4, 2, 14, 4, 2}, {16, 2, 4, 2, 0, 4, 1}, {16, 2, 4, 2, 1, 4, 1}, {16, 2, 4, 2, 14, 1, 1},
		nums(5, 1, 2, 3, 0, 0, 0, -1), nums(5, 1, 2, 3, 0, 0, 0, 1), nums(5, 1, 2, 3, 0, 0, 0, 1<<32), nums(5, 1, 2, 3, 0, 0, 0, math.MaxInt64), nums(5, 1, 2, 3, 0, 0, 0, math.MinInt64),
		nums(5, 1, 2, 3, 0, 0, 0, 1, 1, 0, -1), nums(5, 1, 2, 3, 0, 0, 0, 1, 1, 0, 1), nums(5, 1, 2, 3, 0, 0, 0, 1, 1, 3, 0), nums(5, 1, 2, 3, 0, 0, 0, 1, 1, 1<<32, 0),
		nums(5, 1, 2, 3, 0, 0, 0, 1, 4, 0, 0), nums(5, 1, 2, 3, 0, 2, 0, 1, 1, 0, 0), nums(5, 1, 2, 3, 0, 0, 0, 2, 2, 0, 0, 1, 0, 0),
		nums(5, 1, 2, 3, top, 0, 0, 1, 1, 0, 0), nums(5, 1, 2, 3, math.MaxInt64, 0, 0, 1, 1, 0, 0), nums(5, 1, 2, 3, -1, 0, 0, 1, 1, 0, 0),
		nums(4, 1, 2, 1<<40+1, 1), nums(4, 1, 2, 0, 1), nums(4, 1, 2, -1, 1), nums(4, 1<<32+1, 2, 1, 0), nums(1<<32+4, 1, 2, 1, 0), nums(0, 1, 2, 1), nums(9, 1, 2, 1), nums(-4, 1, 2, 1, 0),
		piece(), piece(0, 0), piece(2, 2), piece(2, 2, 0, 0), piece(2, 16, 0), piece(4, 4, 2, 0), piece(2, 2, 2, 2), piece(0x82, 0, 2, 0),
		slices.Concat(head, []byte{0, 0}), slices.Concat(head, []byte{0, 0, 2, 2, 0}), slices.Concat(head, []byte{0, 2, 6, 2, 2, 0}),
		slices.Concat(head, putBytes(nil, make([]byte, 65)), []byte{0, 6, 2, 2, 0}),
	} {
		if decodes(t, frame(payload)) {
			t.Errorf("%v is taken", payload)
		}
	}
}

// P17.1: nine entries are too many, eight aren't.
func TestCountOfEntries(t *testing.T) {
	for n := range int64(12) {
		payload := nums(5, 1, 2, 3, 0, 0, 0, n)
		for range n {
			payload = append(payload, nums(1, 0, 0)...)
		}
		if decodes(t, frame(payload)) != (n <= 8) {
			t.Errorf("%d entries", n)
		}
	}
}

// P17.1: any bytes, and any payloads in frames.
func TestAnyBytes(t *testing.T) {
	d := rand.New(rand.NewPCG(17, 2))
	taken := 0
	for range 200000 {
		b := make([]byte, d.IntN(20))
		for i := range b {
			b[i] = byte(d.IntN(20))
		}
		if d.IntN(10) == 0 {
			decodes(t, b)
		}
		// Most of the values that may stand in front, so that more than a few go further.
		if len(b) > 4 {
			b[0], b[1], b[2], b[3] = byte(2*d.IntN(10)), byte(2*d.IntN(9)), byte(2*d.IntN(9)), byte(2*d.IntN(10))
		}
		if decodes(t, frame(b)) {
			taken++
		}
	}
	if taken < 200 {
		t.Errorf("%d alone were taken", taken)
	}
}

// P17.1: every payload of up to six bytes that have few values.
func TestEveryShortPayload(t *testing.T) {
	taken := 0
	var grow func(b []byte)
	grow = func(b []byte) {
		if decodes(t, frame(b)) {
			taken++
		}
		if len(b) < 6 {
			for _, x := range []byte{0, 1, 2, 4, 6, 8, 12, 16, 128} {
				grow(append(slices.Clone(b), x))
			}
		}
	}
	grow(nil)
	if taken < 200 {
		t.Errorf("%d alone were taken", taken)
	}
}

// P17.2: any right messages, in long runs.
func TestAnyRight(t *testing.T) {
	d := rand.New(rand.NewPCG(17, 3))
	kinds := map[int]int{}
	forms := map[string]api.Msg{}
	for range 50000 {
		m := anyRight(d)
		if code := asks(t, m); code != api.OK {
			t.Fatalf("%v: %d", m, code)
		}
		b, _ := msg.Encode(m)
		if other, ok := forms[string(b)]; ok && !equal(m, other) {
			t.Fatalf("%v and %v have the same bytes", m, other)
		}
		forms[string(b)] = m
		kinds[m.Kind]++
	}
	if len(kinds) != 8 || len(forms) < 20000 {
		t.Errorf("%d forms of the kinds %v", len(forms), kinds)
	}
}

// anyRight is a right message.
func anyRight(d *rand.Rand) api.Msg {
	number := func(least, most int64) int64 {
		if d.IntN(3) == 0 {
			return []int64{least, most}[d.IntN(2)]
		}
		return least + d.Int64N(min(most-least, int64(1)<<d.IntN(40))+1)
	}
	m := api.Msg{Kind: 1 + d.IntN(8), From: 1 + d.IntN(7), Term: number(1, top)}
	m.To = 1 + (m.From+d.IntN(6))%7
	some := func(most int) []byte { return bytes.Repeat([]byte{byte(d.IntN(256))}, d.IntN(most+1)) }
	switch m.Kind {
	case api.PreAsk, api.Ask:
		m.Index, m.LogTerm = number(0, top), number(0, top)
	case api.PreSay, api.Say:
		m.Ok = d.IntN(2) == 0
	case api.Got:
		m.Index, m.Ok = number(0, top), d.IntN(2) == 0
	case api.Took:
		m.Index, m.Off, m.Last = number(1, top), number(0, 32768), d.IntN(2) == 0
	case api.Piece:
		m.Index, m.LogTerm, m.Off, m.Data, m.Last = number(1, top), number(0, top), number(0, 32768), some(64), d.IntN(2) == 0
		m.Conf = api.Conf{Voters: []int{1 + d.IntN(3)}}
		for n := 4; n <= 7; n++ {
			switch d.IntN(3) {
			case 0:
				m.Conf.Voters = append(m.Conf.Voters, n)
			case 1:
				m.Conf.Learners = append(m.Conf.Learners, n)
			}
		}
	case api.Append:
		m.Index, m.LogTerm, m.Commit = number(0, top-8), number(0, m.Term), number(0, top)
		last := m.LogTerm
		for i := range int64(d.IntN(9)) {
			last = number(last, m.Term)
			m.Entries = append(m.Entries, api.Entry{Index: m.Index + 1 + i, Term: last, Kind: d.IntN(3), Data: some(400)})
		}
	}
	return m
}
