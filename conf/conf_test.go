package conf_test

import (
	"math"
	"math/rand/v2"
	"slices"
	"testing"

	"quillet/api"
	"quillet/conf"
)

// P15.1: the chapter's examples.
func TestExamples(t *testing.T) {
	c := of([]int{1, 2, 3})
	if !conf.Quorum(c, []int{1, 3}) || conf.Quorum(c, []int{2}) {
		t.Error("1 and 3 are a quorum, 2 alone is none")
	}
	next, code := conf.Next(of([]int{1, 2, 3}, 4), conf.Promote, 4)
	if code != api.OK || !same(next, of([]int{1, 2, 3, 4})) {
		t.Errorf("4 votes: %v, %d", next, code)
	}
	at := func(n int) int64 { return []int64{0, 5, 3, 9}[n] }
	if got := conf.Middle(c, at); got != 5 {
		t.Errorf("Middle of 5, 3, 9 is %d", got)
	}
	if conf.Learn != 1 || conf.Promote != 2 || conf.Remove != 3 {
		t.Errorf("the changes are %d, %d, %d", conf.Learn, conf.Promote, conf.Remove)
	}
}

// P15.1: every right configuration, with every change.
func TestEveryRight(t *testing.T) {
	all := everyRight()
	if len(all) != 2187-128 {
		t.Fatalf("there are %d", len(all))
	}
	for _, c := range all {
		asks(t, c)
	}
}

// P15.1: every configuration of at most three voters and two learners of few numbers, of which most aren't right.
func TestEveryShort(t *testing.T) {
	var lists [][]int
	var grow func(list []int, most int)
	numbers := []int{-1, 0, 1, 2, 7, 8}
	grow = func(list []int, most int) {
		lists = append(lists, list)
		if len(list) < most {
			for _, n := range numbers {
				grow(append(slices.Clone(list), n), most)
			}
		}
	}
	grow(nil, 3)
	seen := 0
	for _, voters := range lists {
		for _, learners := range lists {
			if len(learners) <= 2 {
				asks(t, of(voters, learners...))
				seen++
			}
		}
	}
	if seen != 259*43 {
		t.Errorf("%d of them", seen)
	}
}

// P15.1: what makes a configuration not right, one thing at a time.
func TestRight(t *testing.T) {
	for name, x := range map[string]struct {
		c  api.Conf
		is bool
	}{
		"nothing":                  {api.Conf{}, false},
		"empty lists":              {of([]int{}, []int{}...), false},
		"one voter":                {of([]int{1}), true},
		"the greatest":             {of([]int{7}), true},
		"one too great":            {of([]int{8}), false},
		"one too small":            {of([]int{0}), false},
		"below 0":                  {of([]int{-1}), false},
		"wrapped":                  {of([]int{1<<32 + 1}), false},
		"the most":                 {of([]int{math.MaxInt}), false},
		"the least":                {of([]int{math.MinInt}), false},
		"all vote":                 {of([]int{1, 2, 3, 4, 5, 6, 7}), true},
		"eight":                    {of([]int{1, 2, 3, 4, 5, 6, 7, 8}), false},
		"twice":                    {of([]int{1, 1}), false},
		"they fall":                {of([]int{2, 1}), false},
		"the last one falls":       {of([]int{1, 2, 3, 5, 4}), false},
		"nobody votes":             {of(nil, 1, 2), false},
		"some learn":               {of([]int{4}, 1, 7), true},
		"a learner too great":      {of([]int{4}, 1, 8), false},
		"a learner too small":      {of([]int{4}, 0, 1), false},
		"a learner twice":          {of([]int{4}, 1, 1), false},
		"learners fall":            {of([]int{4}, 2, 1), false},
		"in both":                  {of([]int{4}, 4), false},
		"in both, first and last":  {of([]int{1, 5}, 5, 6), false},
		"in both, the other ones":  {of([]int{2, 5}, 1, 2), false},
		"one votes, all the rest":  {of([]int{4}, 1, 2, 3, 5, 6, 7), true},
		"all vote, and one learns": {of([]int{1, 2, 3, 4, 5, 6, 7}, 7), false},
	} {
		if saidRight(x.c) != x.is {
			t.Fatalf("%s: the test's own words", name)
		}
		asks(t, x.c)
	}
}

// P15.1: the first error that applies is answered.
func TestOrderOfErrors(t *testing.T) {
	one, wrong := of([]int{3}, 5), of([]int{3, 3})
	for _, x := range []struct {
		c       api.Conf
		kind, n int
		code    api.Errno
	}{
		{wrong, conf.Learn, 3, api.ErrArg},
		{wrong, conf.Remove, 4, api.ErrArg},
		{api.Conf{}, conf.Promote, 1, api.ErrArg},
		{one, 0, 3, api.ErrArg},
		{one, 4, 5, api.ErrArg},
		{one, conf.Learn, 0, api.ErrArg},
		{one, conf.Promote, 8, api.ErrArg},
		{one, conf.Remove, -1, api.ErrArg},
		{one, conf.Learn, 3, api.ErrTwice},
		{one, conf.Learn, 5, api.ErrTwice},
		{one, conf.Learn, 4, api.OK},
		{one, conf.Promote, 3, api.ErrNone},
		{one, conf.Promote, 4, api.ErrNone},
		{one, conf.Promote, 5, api.OK},
		{one, conf.Remove, 4, api.ErrNone},
		{one, conf.Remove, 3, api.ErrMany},
		{one, conf.Remove, 5, api.OK},
		{of([]int{3}), conf.Remove, 3, api.ErrMany},
		{of([]int{3, 4}), conf.Remove, 3, api.OK},
	} {
		c, code := conf.Next(x.c, x.kind, x.n)
		if code != x.code || code != api.OK && (len(c.Voters) > 0 || len(c.Learners) > 0) {
			t.Errorf("Next(%v, %d, %d) = %v, %d; not %d", x.c, x.kind, x.n, c, code, x.code)
		}
	}
}

// P15.1: changes one behind the other lead to every right configuration, and from each to one that is right.
func TestChangesLeadEverywhere(t *testing.T) {
	seen := map[string]bool{}
	work := []api.Conf{of([]int{1})}
	for len(work) > 0 {
		c := work[0]
		work = work[1:]
		if seen[string(form(c))] {
			continue
		}
		seen[string(form(c))] = true
		for kind := conf.Learn; kind <= conf.Remove; kind++ {
			for n := 1; n <= 7; n++ {
				if next, code := conf.Next(c, kind, n); code == api.OK {
					if !conf.Right(next) {
						t.Fatalf("Next(%v, %d, %d) = %v", c, kind, n, next)
					}
					work = append(work, next)
				}
			}
		}
	}
	if len(seen) != 2059 {
		t.Errorf("%d of them", len(seen))
	}
}

// P15.1: any lists, of members' numbers and of others: they count as the lists have them.
func TestAnyLists(t *testing.T) {
	d := rand.New(rand.NewPCG(15, 1))
	list := func() []int {
		out := make([]int, d.IntN(9))
		for i := range out {
			if out[i] = d.IntN(9); d.IntN(12) == 0 {
				out[i] = edges()[d.IntN(len(edges()))]
			}
		}
		if d.IntN(2) == 0 {
			slices.Sort(out)
		}
		return out
	}
	yes, no := 0, 0
	for range 30000 {
		c, who := of(list(), list()...), list()
		asks(t, c)
		is := conf.Quorum(c, who)
		if is != saidQuorum(c, who) {
			t.Fatalf("Quorum(%v, %v) = %v", c, who, is)
		}
		if is {
			yes++
		} else {
			no++
		}
		middle(t, c, d)
	}
	if yes < 3000 || no < 3000 {
		t.Errorf("%d are quorums, %d none", yes, no)
	}
}

// middle asks for the Middle of any numbers.
func middle(t *testing.T, c api.Conf, d *rand.Rand) {
	t.Helper()
	has := map[int]int64{}
	for _, n := range c.Voters {
		has[n] = d.Int64N(5) - 2
		if d.IntN(8) == 0 {
			has[n] = []int64{math.MinInt64, math.MaxInt64, 1 << 40, -1 << 40}[d.IntN(4)]
		}
	}
	at := func(n int) int64 { return has[n] }
	if got, want := conf.Middle(c, at), saidMiddle(c, at); got != want {
		t.Fatalf("Middle(%v, %v) = %d, not %d", c, has, got, want)
	}
}

// P15.1: what a quorum is: as the list has the voters, without regard to whom it names twice, or who learns.
func TestQuorum(t *testing.T) {
	for _, x := range []struct {
		voters, who []int
		is          bool
	}{
		{nil, nil, false},
		{nil, []int{1, 2, 3}, false},
		{[]int{1}, nil, false},
		{[]int{1}, []int{1}, true},
		{[]int{1}, []int{2}, false},
		{[]int{1, 2}, []int{1}, false},
		{[]int{1, 2}, []int{1, 1, 1}, false},
		{[]int{1, 2}, []int{2, 1}, true},
		{[]int{1, 2, 3}, []int{3, 2}, true},
		{[]int{1, 2, 3}, []int{3, 4, 5, 6, 7}, false},
		{[]int{1, 2, 3, 4}, []int{4, 1}, false},
		{[]int{1, 2, 3, 4}, []int{4, 1, 3}, true},
		{[]int{1, 2, 3, 4, 5}, []int{5, 3, 1}, true},
		{[]int{1, 1, 2}, []int{1}, true}, // as the list has them: two of three
		{[]int{1, 1, 2}, []int{2}, false},
		{[]int{1, 1, 2, 3}, []int{1}, false},
		{[]int{9, -4}, []int{-4, 9}, true},
		{[]int{math.MinInt, math.MaxInt, 0}, []int{math.MaxInt, math.MinInt}, true},
	} {
		for _, learners := range [][]int{nil, {1, 2, 3}, {6, 7}} {
			if got := conf.Quorum(of(x.voters, learners...), x.who); got != x.is {
				t.Errorf("Quorum(%v, %v) = %v", x.voters, x.who, got)
			}
		}
	}
}

// quorums are all that are among seven, by the bits of a number.
func quorums(c api.Conf) []int {
	var out []int
	for set := range 256 {
		if conf.Quorum(c, members(set)) {
			out = append(out, set)
		}
	}
	return out
}

func members(set int) []int {
	var out []int
	for n := range 8 {
		if set>>n&1 == 1 {
			out = append(out, n)
		}
	}
	return out
}

func bits(members []int) (set int) {
	for _, n := range members {
		set |= 1 << n
	}
	return set
}

// P15.2: every two quorums of every right configuration, and every one of it and of every next one, have a voter of both in common.
func TestQuorumsMeet(t *testing.T) {
	known := map[int][]int{}
	for _, c := range everyRight() {
		voters := bits(c.Voters)
		if known[voters] == nil {
			known[voters] = quorums(of(c.Voters))
		}
		if len(known[voters]) == 0 {
			t.Fatalf("%v has no quorum", c)
		}
	}
	for _, c := range everyRight() {
		meet(t, known, c, c)
		for kind := 1; kind <= 3; kind++ {
			for n := 1; n <= 7; n++ {
				if next, code := conf.Next(c, kind, n); code == api.OK {
					meet(t, known, c, next)
				}
			}
		}
	}
}

func meet(t *testing.T, known map[int][]int, c, next api.Conf) {
	t.Helper()
	both := bits(c.Voters) & bits(next.Voters)
	for _, a := range known[bits(c.Voters)] {
		for _, b := range known[bits(next.Voters)] {
			if a&b&both == 0 {
				t.Fatalf("%v of %v, and %v of %v", members(a), c, members(b), next)
			}
		}
	}
}

// P15.1: the greatest number that more than half have reached; of an even many it is the lower one of the middle.
func TestMiddle(t *testing.T) {
	for _, x := range []struct {
		ns   []int64
		want int64
	}{
		{nil, 0},
		{[]int64{4}, 4},
		{[]int64{-4}, -4},
		{[]int64{4, 6}, 4},
		{[]int64{6, 4}, 4},
		{[]int64{5, 3, 9}, 5},
		{[]int64{9, 9, 1}, 9},
		{[]int64{1, 9, 1}, 1},
		{[]int64{1, 2, 3, 4}, 2},
		{[]int64{4, 3, 2, 1}, 2},
		{[]int64{7, 7, 7, 7}, 7},
		{[]int64{1, 2, 3, 4, 5}, 3},
		{[]int64{0, 0, 8, 8, 8, 0}, 0},
		{[]int64{0, 0, 8, 8, 8, 8}, 8},
		{[]int64{-3, -2, -1}, -2},
		{[]int64{math.MinInt64, math.MaxInt64, 0}, 0},
		{[]int64{math.MaxInt64, math.MaxInt64, math.MinInt64}, math.MaxInt64},
		{[]int64{1, 2, 3, 4, 5, 6, 7}, 4},
	} {
		var voters []int
		for n := range x.ns {
			voters = append(voters, n+1)
		}
		var asked []int
		at := func(n int) int64 {
			asked = append(asked, n)
			return x.ns[n-1]
		}
		if got := conf.Middle(of(voters, 20, 21), at); got != x.want {
			t.Errorf("Middle of %v is %d, not %d", x.ns, got, x.want)
		}
		if !slices.Equal(asked, voters) {
			t.Errorf("%v were asked for, not %v", asked, voters)
		}
	}
}

// P15.1: every way that seven or fewer may have reached few numbers.
func TestMiddleOfAll(t *testing.T) {
	for many := 1; many <= 7; many++ {
		var voters []int
		total := 1
		for n := range many {
			voters = append(voters, n+1)
			total *= 4
		}
		for code := range total {
			at := func(n int) int64 { return int64(code >> (2 * (n - 1)) & 3) }
			if got, want := conf.Middle(of(voters), at), saidMiddle(of(voters), at); got != want {
				t.Fatalf("Middle of %d among %d is %d, not %d", code, many, got, want)
			}
		}
	}
}

// P15.1: with which numbers a quorum's matches reach the Middle, and no greater one.
func TestMiddleIsAQuorums(t *testing.T) {
	d := rand.New(rand.NewPCG(15, 3))
	for _, c := range everyRight() {
		has := [8]int64{}
		for n := range has {
			has[n] = d.Int64N(6)
		}
		at := func(n int) int64 { return has[n] }
		reached := func(x int64) (who []int) {
			for n := 1; n <= 7; n++ {
				if has[n] >= x {
					who = append(who, n)
				}
			}
			return who
		}
		got := conf.Middle(c, at)
		if !conf.Quorum(c, reached(got)) || conf.Quorum(c, reached(got+1)) {
			t.Fatalf("Middle(%v, %v) = %d", c, has, got)
		}
	}
}

// P15.1: Middle doesn't panic: not without a function, and not with one that does; then it is 0.
func TestMiddleNeverPanics(t *testing.T) {
	for name, at := range map[string]func(int) int64{
		"none":    nil,
		"always":  func(int) int64 { panic("always") },
		"nothing": func(int) int64 { panic(nil) },
		"an index": func(n int) int64 {
			return []int64{0, 5}[n]
		},
	} {
		if got := conf.Middle(of([]int{1, 2, 3}), at); got != 0 {
			t.Errorf("%s: %d", name, got)
		}
		if got := conf.Middle(of(nil, 1), at); got != 0 {
			t.Errorf("%s, without voters: %d", name, got)
		}
	}
}

// P15.1: lists may be long.
func TestLongLists(t *testing.T) {
	const many = 200000
	voters, who := make([]int, many), make([]int, many)
	for i := range voters {
		voters[i], who[i] = many-i, 2*i
	}
	c := of(voters, who...)
	if conf.Right(c) || conf.Quorum(c, who) || !conf.Quorum(c, append(who, 1)) {
		t.Error("half of them are no quorum, one more is")
	}
	if got := conf.Others(c, 7); len(got) != many+many/2-1 || !slices.IsSorted(got) {
		t.Errorf("%d others", len(got))
	}
	if got := conf.Middle(c, func(n int) int64 { return int64(n) }); got != many/2 {
		t.Errorf("Middle = %d", got)
	}
	if _, code := conf.Bytes(c); code != api.ErrArg {
		t.Errorf("Bytes = %d", code)
	}
}
