package serial_test

import (
	"math"
	"slices"
	"testing"

	"quillet/api"
	"quillet/serial"
)

// asked holds all that is told of a history against the document's words, and what P12.2 says.
func asked(t *testing.T, name any, h []api.Done) {
	t.Helper()
	right, edges := saidRight(h), saidEdges(h)
	order, ok := saidOrder(h)
	stuck := saidStuck(h)
	if got := serial.Right(h); got != right {
		t.Fatalf("%v: Right(%v) = %v", name, h, got)
	}
	if got := serial.Edges(h); !slices.Equal(got, edges) {
		t.Fatalf("%v: Edges(%v) = %v, not %v", name, h, got, edges)
	}
	got, gotOk := serial.Order(h)
	if gotOk != ok || !slices.Equal(got, order) {
		t.Fatalf("%v: Order(%v) = %v, %v, not %v, %v", name, h, got, gotOk, order, ok)
	}
	gotStuck := serial.Stuck(h)
	if !slices.Equal(gotStuck, stuck) {
		t.Fatalf("%v: Stuck(%v) = %v, not %v", name, h, gotStuck, stuck)
	}
	switch {
	case !right:
		return
	case gotOk && (!serial.Reads(h, got) || len(gotStuck) > 0):
		t.Fatalf("%v: %v has the order %v, of which Reads doesn't hold, or Stuck is %v", name, h, got, gotStuck)
	case !gotOk && len(gotStuck) < 2:
		t.Fatalf("%v: %v has no order, and Stuck is %v", name, h, gotStuck)
	}
}

// askedReads holds Reads of some orders against the document's words.
func askedReads(t *testing.T, name any, h []api.Done, orders ...[]int64) {
	t.Helper()
	for _, order := range orders {
		if got, want := serial.Reads(h, order), saidReads(h, order); got != want {
			t.Fatalf("%v: Reads(%v, %v) = %v", name, h, order, got)
		}
	}
}

// wrong asks of a history that isn't right: nothing is told of it.
func wrong(t *testing.T, name any, h []api.Done) {
	t.Helper()
	order, ok := serial.Order(h)
	var rising []int64
	for i := range h {
		rising = append(rising, int64(i+1))
	}
	if serial.Right(h) || len(serial.Edges(h)) > 0 || len(order) > 0 || ok || len(serial.Stuck(h)) > 0 || serial.Reads(h, rising) || serial.Reads(h, nil) {
		t.Errorf("%v: something is told of a history that isn't right", name)
	}
	if len(h) < 100 {
		asked(t, name, h)
	}
}

// P12.1: the document's examples.
func TestExamples(t *testing.T) {
	h := done(on(0, r(1), w(2)), on(0, r(2), w(1)))
	told(t, "two round", h, []serial.Edge{{From: 1, To: 2}, {From: 2, To: 1}}, nil, []int64{1, 2})
	h = done(on(0, w(1)), on(1, r(1)))
	told(t, "one reads the other", h, []serial.Edge{{From: 1, To: 2}}, []int64{1, 2}, nil)
}

// told asks of a right history for just these edges, order (nil: none) and stuck ones.
func told(t *testing.T, name string, h []api.Done, edges []serial.Edge, order, stuck []int64) {
	t.Helper()
	if !serial.Right(h) {
		t.Errorf("%s: %v isn't right", name, h)
	}
	if got := serial.Edges(h); !slices.Equal(got, edges) {
		t.Errorf("%s: the edges are %v, not %v", name, got, edges)
	}
	if got, ok := serial.Order(h); !slices.Equal(got, order) || ok != (len(stuck) == 0) {
		t.Errorf("%s: the order is %v, %v, not %v", name, got, ok, order)
	}
	if got := serial.Stuck(h); !slices.Equal(got, stuck) {
		t.Errorf("%s: stuck are %v, not %v", name, got, stuck)
	}
	asked(t, name, h)
}

// many is a history of n, each of which reads what the one ahead of it has left.
func many(n int) []api.Done {
	var ss []api.Sub
	for i := range n {
		ss = append(ss, on(int64(i), r(1), w(1)))
	}
	return done(ss...)
}

// P12.1: how many there may be.
func TestHowMany(t *testing.T) {
	for _, h := range [][]api.Done{nil, {}} {
		order, ok := serial.Order(h)
		if !serial.Right(h) || len(serial.Edges(h)) > 0 || len(order) > 0 || !ok || len(serial.Stuck(h)) > 0 {
			t.Errorf("no transactions: %v, %v", order, ok)
		}
		if !serial.Reads(h, nil) || !serial.Reads(h, []int64{}) || serial.Reads(h, []int64{1}) || serial.Reads(h, []int64{0}) {
			t.Error("no transactions: Reads")
		}
	}
	for _, n := range []int{1, 2, 63, 64} {
		h := many(n)
		asked(t, n, h)
		order, ok := serial.Order(h)
		if !serial.Right(h) || !ok || len(order) != n || len(serial.Edges(h)) != n*(n-1)/2 || !slices.IsSorted(order) || !serial.Reads(h, order) {
			t.Errorf("%d: %v, %v", n, order, ok)
		}
	}
	for _, n := range []int{65, 66, 128, 1 << 14} {
		wrong(t, n, many(n))
	}
}

// P12.1: the numbers are 1, 2, 3 and so on.
func TestNumbers(t *testing.T) {
	for _, nums := range [][]int64{
		{0}, {2}, {-1}, {math.MaxInt64}, {math.MinInt64}, {1<<32 + 1}, {1 << 40},
		{0, 1}, {2, 3}, {1, 3}, {1, 1}, {2, 1}, {1, 0}, {1, 1<<32 + 2}, {2, 2},
		{1, 2, 4}, {1, 3, 4}, {1, 2, 2}, {1, 2, 1}, {1, 1, 2}, {1, 3, 2}, {3, 2, 1}, {2, 1, 3}, {1, 2, 0}, {1, 2, -3}, {0, 1, 2}, {3, 1, 2},
	} {
		var h []api.Done
		for _, n := range nums {
			h = append(h, api.Done{Num: n, Sub: on(0)})
		}
		wrong(t, nums, h)
	}
	h := many(64)
	h[63].Num = 65
	wrong(t, "the last one of 64", h)
	h[63].Num = 63
	wrong(t, "the last one of 64", h)
	asked(t, "all with Snap 0", done(on(0), on(0), on(0)))
	if !serial.Right(done(on(0), on(0), on(0))) {
		t.Error("1, 2, 3 aren't right")
	}
}

// P12.1: submissions that aren't right, at every place.
func TestWrongSubmissions(t *testing.T) {
	bad := map[string]api.Sub{
		"no session":      {Seq: 1},
		"no seq":          {Session: 1},
		"session too big": {Session: 1<<40 + 1, Seq: 1},
		"seq too big":     {Session: 1, Seq: 1<<40 + 1},
		"snap below 0":    on(-1),
		"snap far below":  on(math.MinInt64),
		"many reads":      on(0, r(upTo(0, 17)...)),
		"many writes":     on(0, w(upTo(0, 17)...)),
		"many spans":      on(0, sp(apart(9)...)),
		"very many reads": on(0, r(upTo(0, 1<<18)...)),
		"NaN read":        on(0, r(nan)),
		"NaN written":     on(0, w(nan)),
		"a wrong span":    on(0, sp(shut(nan, 1))),
		"an empty span":   on(0, sp(shut(2, 1))),
		"an open span":    on(0, sp(api.Span{Lo: 1, Hi: 2, HiOpen: true})),
		"spans touch":     on(0, sp(shut(1, 2), shut(up(2), 3))),
		"spans fall":      on(0, sp(shut(5, 6), shut(1, 2))),
		"reads fall":      on(0, r(2, 1)),
		"a read twice":    on(0, r(1, 1)),
		"writes fall":     on(0, w(2, 1)),
		"a write twice":   on(0, w(1, 1)),
		"-0 read":         on(0, r(zero)),
		"-0 written":      on(0, w(zero)),
		"-0 in a span":    on(0, sp(shut(zero, 1))),
		"-0 at its end":   on(0, sp(shut(-1, zero))),
	}
	for name, s := range bad {
		wrong(t, name, done(s))
		wrong(t, name, done(s, on(0), on(0)))
		wrong(t, name, done(on(0), s, on(0)))
		wrong(t, name, done(on(0), on(0), s))
	}
	for name, s := range map[string]api.Sub{
		"the least":    {Session: 1, Seq: 1},
		"the greatest": {Session: 1 << 40, Seq: 1 << 40, Reads: upTo(0, 16), Writes: upTo(0, 16), Spans: apart(8)},
		"0 read":       on(0, r(0)),
		"0 written":    on(0, w(0)),
		"0 in a span":  on(0, sp(shut(0, 1))),
		"edges":        on(0, r(-inf, inf), w(-inf, inf), sp(shut(-inf, inf))),
	} {
		if !serial.Right(done(s)) || !serial.Right(done(on(0), on(1), on(2), func() api.Sub { s.Snap = 3; return s }())) {
			t.Errorf("%s: %v isn't right", name, s)
		}
		asked(t, name, done(s))
	}
}

// upTo are n keys from a first one on; apart are n spans that don't touch.
func upTo(first float64, n int) []float64 {
	var out []float64
	for i := range n {
		out = append(out, first+float64(i))
	}
	return out
}

func apart(n int) []api.Span {
	var out []api.Span
	for i := range n {
		out = append(out, shut(float64(3*i), float64(3*i+1)))
	}
	return out
}

// P12.1: each Snap is below its number.
func TestSnaps(t *testing.T) {
	for n := 1; n <= 4; n++ {
		for snap := int64(0); snap <= 6; snap++ {
			ss := []api.Sub{on(0), on(0), on(0), on(0)}
			ss[n-1].Snap = snap
			h := done(ss...)
			if got := serial.Right(h); got != (snap < int64(n)) {
				t.Errorf("number %d with Snap %d: Right is %v", n, snap, got)
			}
			asked(t, n, h)
		}
	}
	wrong(t, "a Snap as great as may be", done(on(0), on(1<<40)))
	wrong(t, "a greater one", done(on(0), on(1<<40+1)))
}

// P12.1: of two beside each other none writes what the other one writes.
func TestBothWrite(t *testing.T) {
	for name, c := range map[string]struct {
		h  []api.Done
		ok bool
	}{
		"beside, one key":             {done(on(0, w(1)), on(0, w(1))), false},
		"not beside, one key":         {done(on(0, w(1)), on(1, w(1))), true},
		"beside, two keys":            {done(on(0, w(1)), on(0, w(2))), true},
		"beside, the first of many":   {done(on(0, w(1, 2, 3)), on(0, w(-1, 0, 1))), false},
		"beside, the last of many":    {done(on(0, w(1, 2, 3)), on(0, w(3, 4, 5))), false},
		"beside, none of many":        {done(on(0, w(1, 3, 5)), on(0, w(2, 4, 6))), true},
		"beside, neighbours":          {done(on(0, w(1)), on(0, w(up(1)))), true},
		"beside, 0 and its neighbour": {done(on(0, w(0)), on(0, w(-least, least))), true},
		"beside, -Inf":                {done(on(0, w(-inf)), on(0, w(-inf, inf))), false},
		"the third beside the first":  {done(on(0, w(1)), on(1, w(2)), on(0, w(1))), false},
		"beside the second alone":     {done(on(0, w(1)), on(1, w(2)), on(1, w(1))), true},
		"the third and the second":    {done(on(0, w(1)), on(1, w(2)), on(1, w(2))), false},
		"the third behind both":       {done(on(0, w(1)), on(1, w(2)), on(2, w(1, 2))), true},
		"it reads what the other one": {done(on(0, w(1)), on(0, r(1), w(2))), true},
		"spans aren't written":        {done(on(0, sp(shut(1, 2))), on(0, w(1)), on(1, w(2))), true},
		"reads aren't written":        {done(on(0, r(1)), on(0, r(1))), true},
	} {
		if got := serial.Right(c.h); got != c.ok {
			t.Errorf("%s: Right is %v", name, got)
		}
		asked(t, name, c.h)
	}
	h := many(64)
	h[63].Sub.Snap = 62
	wrong(t, "the last one of 64 is beside the one ahead", h)
	h[63].Sub.Snap = 0
	h[63].Sub.Writes = nil
	if !serial.Right(h) {
		t.Error("the last one of 64 writes nothing, and isn't right")
	}
}

// P12.1: edges of each kind alone and together, each once, by From, then by To.
func TestEdges(t *testing.T) {
	e := func(pairs ...int64) []serial.Edge {
		var out []serial.Edge
		for i := 0; i < len(pairs); i += 2 {
			out = append(out, serial.Edge{From: pairs[i], To: pairs[i+1]})
		}
		return out
	}
	for name, c := range map[string]struct {
		h     []api.Done
		edges []serial.Edge
	}{
		"none":                                 {done(on(0, r(1), w(2)), on(0, r(3), w(4))), nil},
		"one alone":                            {done(on(0, r(1), w(1), sp(shut(0, 2)))), nil},
		"both write":                           {done(on(0, w(1)), on(1, w(1))), e(1, 2)},
		"all write":                            {done(on(0, w(1)), on(1, w(1)), on(2, w(1))), e(1, 2, 1, 3, 2, 3)},
		"it reads what one has left":           {done(on(0, w(1)), on(1, r(1))), e(1, 2)},
		"and what one further back has":        {done(on(0, w(1)), on(0, w(2)), on(1, r(1))), e(1, 3)},
		"it reads what one will write":         {done(on(0, r(1)), on(0, w(1))), e(1, 2)},
		"not beside":                           {done(on(0, r(1)), on(1, w(1))), e(1, 2)},
		"it hasn't seen":                       {done(on(0, w(1)), on(0, r(1))), e(2, 1)},
		"it has seen one of two":               {done(on(0, w(1)), on(1, w(1)), on(1, r(1))), e(1, 2, 1, 3, 3, 2)},
		"it has seen both":                     {done(on(0, w(1)), on(1, w(1)), on(2, r(1))), e(1, 2, 1, 3, 2, 3)},
		"it has seen neither":                  {done(on(0, w(1)), on(1, w(1)), on(0, r(1))), e(1, 2, 3, 1, 3, 2)},
		"all three at once":                    {done(on(0, r(1), w(1)), on(1, r(1), w(1))), e(1, 2)},
		"by many keys":                         {done(on(0, r(1, 2, 3), w(1, 2, 3)), on(1, r(1, 2, 3), w(1, 2, 3))), e(1, 2)},
		"both ways":                            {done(on(0, r(1), w(2)), on(0, r(2), w(1))), e(1, 2, 2, 1)},
		"by Reads and by Spans, the same":      {done(on(0, w(1)), on(1, r(1), sp(shut(0, 2)))), e(1, 2)},
		"a span's first":                       {done(on(0, w(1)), on(1, sp(shut(1, 2)))), e(1, 2)},
		"a span's last":                        {done(on(0, w(2)), on(1, sp(shut(1, 2)))), e(1, 2)},
		"inside a span":                        {done(on(0, w(1.5)), on(1, sp(shut(1, 2)))), e(1, 2)},
		"ahead of a span":                      {done(on(0, w(down(1))), on(1, sp(shut(1, 2)))), nil},
		"behind a span":                        {done(on(0, w(up(2))), on(1, sp(shut(1, 2)))), nil},
		"between two spans":                    {done(on(0, w(3)), on(1, sp(shut(1, 2), shut(4, 5)))), nil},
		"of the second span":                   {done(on(0, w(4)), on(1, sp(shut(1, 2), shut(4, 5)))), e(1, 2)},
		"a span of one key":                    {done(on(0, sp(shut(1, 1))), on(0, w(1))), e(1, 2)},
		"a span of all keys":                   {done(on(0, sp(shut(-inf, inf))), on(0, w(-inf)), on(0, w(inf)), on(0, w(0))), e(1, 2, 1, 3, 1, 4)},
		"0":                                    {done(on(0, w(0)), on(1, r(0))), e(1, 2)},
		"0 in a span from the least one on":    {done(on(0, w(0)), on(1, sp(shut(least, 1)))), nil},
		"0 in a span up to it":                 {done(on(0, w(0)), on(1, sp(shut(-1, 0)))), e(1, 2)},
		"0 in a span up to the one below":      {done(on(0, w(0)), on(1, sp(shut(-1, -least)))), nil},
		"neighbours":                           {done(on(0, w(1)), on(1, r(up(1)))), nil},
		"it reads its own":                     {done(on(0, r(1), w(1)), on(0, r(2), w(2))), nil},
		"it reads its own, and one is ahead":   {done(on(0, w(1)), on(1, r(1), w(1)), on(1, r(1))), e(1, 2, 1, 3, 3, 2)},
		"it reads its own, and one is behind":  {done(on(0, r(1), w(1)), on(0, r(1)), on(2, w(1))), e(1, 3, 2, 1, 2, 3)},
		"who reads alone leads to nobody":      {done(on(0, r(1)), on(0, r(1)), on(2, r(1))), nil},
		"by From, then by To":                  {done(on(0, r(4), w(1)), on(0, w(2)), on(0, w(3)), on(3, r(1, 2, 3), w(4))), e(1, 4, 2, 4, 3, 4)},
		"by From, then by To, from the last":   {done(on(0, w(1)), on(0, w(2)), on(0, r(1, 2)), on(0, r(1, 2))), e(3, 1, 3, 2, 4, 1, 4, 2)},
		"written over twice, read in between":  {done(on(0, w(1)), on(1, w(1)), on(2, w(1)), on(2, r(1))), e(1, 2, 1, 3, 1, 4, 2, 3, 2, 4, 4, 3)},
		"all kinds, of three keys and of four": {done(on(0, w(1, 2)), on(1, r(1), w(3)), on(1, r(3), w(1)), on(1, sp(shut(1, 3)))), e(1, 2, 1, 3, 1, 4, 2, 3, 3, 2, 4, 2, 4, 3)},
	} {
		if got := serial.Edges(c.h); !serial.Right(c.h) || !slices.Equal(got, c.edges) {
			t.Errorf("%s: the edges are %v, not %v", name, got, c.edges)
		}
		asked(t, name, c.h)
	}
}

// P12.1, P12.2: orders, and what is stuck.
func TestOrders(t *testing.T) {
	for name, c := range map[string]struct {
		h            []api.Done
		order, stuck []int64
	}{
		"no edges":                        {done(on(0), on(0), on(0), on(0)), []int64{1, 2, 3, 4}, nil},
		"the other way":                   {done(on(0, w(1)), on(0, r(1))), []int64{2, 1}, nil},
		"all the other way":               {done(on(0, w(1)), on(0, r(1), w(2)), on(0, r(2), w(3)), on(0, r(3))), []int64{4, 3, 2, 1}, nil},
		"the least one that may come":     {done(on(0, w(1)), on(0), on(0, r(1)), on(0)), []int64{2, 3, 1, 4}, nil},
		"it comes as soon as it may":      {done(on(0, w(1)), on(0, r(1)), on(0), on(0)), []int64{2, 1, 3, 4}, nil},
		"it waits for two":                {done(on(0, w(1, 2)), on(0, r(1)), on(0), on(0, r(2)), on(0)), []int64{2, 3, 4, 1, 5}, nil},
		"two wait for one":                {done(on(0, w(1)), on(0, w(2)), on(0), on(0, r(1, 2)), on(0)), []int64{3, 4, 1, 2, 5}, nil},
		"one frees one that frees one":    {done(on(0, w(1)), on(0, r(1), w(2)), on(0, r(2)), on(0)), []int64{3, 2, 1, 4}, nil},
		"two round":                       {done(on(0, r(1), w(2)), on(0, r(2), w(1))), nil, []int64{1, 2}},
		"three round":                     {done(on(0, r(1), w(2)), on(0, r(2), w(3)), on(0, r(3), w(1))), nil, []int64{1, 2, 3}},
		"one comes, two are stuck":        {done(on(0), on(0, r(1), w(2)), on(0, r(2), w(1))), nil, []int64{2, 3}},
		"two are stuck, one comes":        {done(on(0, r(1), w(2)), on(0, r(2), w(1)), on(0)), nil, []int64{1, 2}},
		"one in between comes":            {done(on(0, r(1), w(2)), on(0), on(0, r(2), w(1))), nil, []int64{1, 3}},
		"one waits for those round":       {done(on(0, r(1), w(2)), on(0, r(2), w(1)), on(2, r(1))), nil, []int64{1, 2, 3}},
		"those round wait for one":        {done(on(0, w(3)), on(1, r(1, 3), w(2)), on(1, r(2, 3), w(1))), nil, []int64{2, 3}},
		"two rounds":                      {done(on(0, r(1), w(2)), on(0, r(2), w(1)), on(0, r(3), w(4)), on(0, r(4), w(3)), on(0)), nil, []int64{1, 2, 3, 4}},
		"one waits between two rounds":    {done(on(0, r(1), w(2)), on(0, r(2), w(1)), on(2, r(1), w(5)), on(3, r(3, 5), w(4)), on(3, r(4), w(3))), nil, []int64{1, 2, 3, 4, 5}},
		"one who reads alone is in it":    {done(on(0, w(1)), on(0, r(1), w(2)), on(1, r(1, 2))), nil, []int64{1, 2, 3}},
		"round by spans":                  {done(on(0, w(2), sp(shut(0, 1))), on(0, w(1), sp(shut(2, 3)))), nil, []int64{1, 2}},
		"round by what was written over":  {done(on(0, w(1)), on(1, r(2), w(1)), on(0, r(1), w(2))), nil, []int64{1, 2, 3}},
		"some come ahead, some are stuck": {done(on(0, w(9)), on(0, r(9), w(8)), on(0, r(1), w(2)), on(0, r(8)), on(0, r(2), w(1))), nil, []int64{3, 5}},
	} {
		order, ok := serial.Order(c.h)
		if !serial.Right(c.h) || ok != (len(c.stuck) == 0) || !slices.Equal(order, c.order) {
			t.Errorf("%s: the order is %v, %v, not %v", name, order, ok, c.order)
		}
		if got := serial.Stuck(c.h); !slices.Equal(got, c.stuck) {
			t.Errorf("%s: stuck are %v, not %v", name, got, c.stuck)
		}
		asked(t, name, c.h)
	}
}
