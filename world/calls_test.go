package world_test

import (
	"fmt"
	"go/ast"
	"go/parser"
	"go/token"
	"maps"
	"math"
	"path/filepath"
	"reflect"
	"slices"
	"strings"
	"testing"

	"quillet/api"
	"quillet/cert"
	"quillet/client"
	"quillet/conf"
	"quillet/disk"
	"quillet/flo"
	"quillet/hard"
	"quillet/machine"
	"quillet/msg"
	"quillet/net"
	"quillet/node"
	"quillet/pack"
	"quillet/preds"
	"quillet/raft"
	"quillet/rlog"
	"quillet/serial"
	"quillet/sess"
	"quillet/snap"
	"quillet/span"
	"quillet/sub"
	"quillet/vers"
	"quillet/wal"
	"quillet/world"
)

// calls are all functions of the layers, by package.
func calls() map[string][]any {
	return map[string][]any{
		"flo":     {flo.Canon, flo.Cmp, flo.Code, flo.From, flo.Next, flo.Prev, flo.Least, flo.Most, flo.Text, flo.Parse, flo.Sort},
		"span":    {span.Right, span.Canon, span.Empty, span.Has, span.Meet, span.Apart, span.Within, span.Join, span.Norm, span.Covers, span.One, span.Cmp},
		"pack":    {pack.Put, pack.Get, pack.Read, pack.Sum, pack.Frame, pack.Unframe},
		"sub":     {sub.Check, sub.Canon, sub.Encode, sub.Decode, sub.Reads, sub.Writes, sub.Meets, sub.Same},
		"disk":    {disk.New},
		"wal":     {wal.Open},
		"hard":    {hard.Open},
		"snap":    {snap.Bytes, snap.Read, snap.Open},
		"vers":    {vers.New},
		"preds":   {preds.New},
		"cert":    {cert.New, cert.Load},
		"serial":  {serial.Right, serial.Edges, serial.Order, serial.Stuck, serial.Reads},
		"sess":    {sess.New, sess.Load},
		"machine": {machine.New, machine.Load},
		"conf":    {conf.Right, conf.Voter, conf.Member, conf.Others, conf.Quorum, conf.Next, conf.Bytes, conf.Load, conf.Middle},
		"rlog":    {rlog.New},
		"msg":     {msg.Right, msg.Encode, msg.Decode, msg.Same},
		"raft":    {raft.New},
		"net":     {net.New},
		"node":    {node.Open},
		"client":  {client.New},
		"world":   {world.New},
	}
}

// P1: the calls above are all that there are.
func TestAllCalls(t *testing.T) {
	layers := calls()
	for _, layer := range slices.Sorted(maps.Keys(layers)) {
		files, _ := filepath.Glob(filepath.Join("..", layer, "*.go"))
		n := 0
		for _, file := range files {
			if !strings.HasSuffix(file, "_test.go") {
				n += functions(t, file)
			}
		}
		if n != len(layers[layer]) {
			t.Errorf("%s has %d functions, of which %d are tried", layer, n, len(layers[layer]))
		}
	}
	if len(layers) != 22 {
		t.Errorf("%d layers are tried", len(layers))
	}
}

// functions is how many exported ones a file has that are nobody's methods.
func functions(t *testing.T, file string) int {
	f, err := parser.ParseFile(token.NewFileSet(), file, nil, 0)
	if err != nil {
		t.Fatal(err)
	}
	n := 0
	for _, d := range f.Decls {
		if x, ok := d.(*ast.FuncDecl); ok && x.Recv == nil && x.Name.IsExported() {
			n++
		}
	}
	return n
}

// value makes a thing of a type: of a number or a list anything, and often something that is right.
func (d dice) value(t reflect.Type) reflect.Value {
	if made := makers(d)[t]; made != nil && d.IntN(4) > 0 || t.Kind() == reflect.Func || t.Kind() == reflect.Pointer {
		return made()
	}
	v := reflect.New(t).Elem()
	switch t.Kind() {
	case reflect.Bool:
		v.SetBool(d.IntN(2) == 0)
	case reflect.Int, reflect.Int64:
		v.SetInt(d.number())
	case reflect.Uint8, reflect.Uint32, reflect.Uint64:
		v.SetUint(d.Uint64() >> (d.IntN(9) * 8))
	case reflect.Float64:
		v.SetFloat(d.float())
	case reflect.String:
		v.SetString(d.text())
	case reflect.Slice:
		for range d.length(t.Elem()) {
			v = reflect.Append(v, d.value(t.Elem()))
		}
	case reflect.Struct:
		for i := range t.NumField() {
			v.Field(i).Set(d.value(t.Field(i).Type))
		}
	}
	return v
}

func pick[T any](d dice, xs ...T) T { return xs[d.IntN(len(xs))] }

func (d dice) number() int64 {
	if d.IntN(4) > 0 {
		return d.Int64N(9) - 1
	}
	return pick[int64](d, math.MinInt64, math.MinInt64+1, -1<<32, -9, 12, 13, 32, 33, 64, 65, 255, 256, 500, 2048, 4096, 4097, 32768, 65536, 1<<32+1, api.MaxNumber-1, api.MaxNumber, api.MaxNumber+1, math.MaxInt64-1, math.MaxInt64)
}

func (d dice) float() float64 {
	if d.IntN(3) > 0 {
		return float64(d.IntN(7))
	}
	return pick(d, math.NaN(), math.Float64frombits(0xFFF0000000000001), math.Inf(1), math.Inf(-1), math.Copysign(0, -1), math.SmallestNonzeroFloat64, -math.SmallestNonzeroFloat64, math.MaxFloat64, -math.MaxFloat64, 0.1)
}

func (d dice) text() string {
	return pick(d, "", "a", "hard", "hard.tmp", "snap.tmp", "w000000000000001", "s000000000000001", "w000000000000002", "seventeen letters", "NaN", "-Inf", "1e+06", "0x1", "\xff\x00")
}

// length is mostly that of a short list; of bytes often more than may be.
func (d dice) length(of reflect.Type) int {
	switch {
	case d.IntN(8) > 0:
		return d.IntN(5)
	case of.Kind() == reflect.Uint8:
		return pick(d, 64, 65, 300, 2048, 4096, 4097)
	}
	return pick(d, 8, 9, 16, 17, 40)
}

// makers are for what would hardly ever be right by chance, and for what must be there.
func makers(d dice) map[reflect.Type]func() reflect.Value {
	of := func(x any) reflect.Value { return reflect.ValueOf(x) }
	return map[reflect.Type]func() reflect.Value{
		reflect.TypeFor[[]byte]():             func() reflect.Value { return of(d.raw()) },
		reflect.TypeFor[api.Sub]():            func() reflect.Value { return of(d.right()) },
		reflect.TypeFor[api.Conf]():           func() reflect.Value { return of(d.members()) },
		reflect.TypeFor[api.Msg]():            func() reflect.Value { return of(d.message()) },
		reflect.TypeFor[api.Span]():           func() reflect.Value { return of(span.One(float64(d.IntN(6)))) },
		reflect.TypeFor[*disk.Disk]():         func() reflect.Value { return of(d.disk()) },
		reflect.TypeFor[*rlog.Log]():          func() reflect.Value { return of(d.log()) },
		reflect.TypeFor[func(*pack.Reader)](): func() reflect.Value { return of(d.reader()) },
		reflect.TypeFor[func(n int) int64]():  func() reflect.Value { return of(d.at15()) },
		reflect.TypeFor[[]api.Done]():         func() reflect.Value { return of(d.history()) },
		reflect.TypeFor[world.Conf]():         func() reflect.Value { return of(d.conf()) },
		reflect.TypeFor[world.Step]():         func() reflect.Value { return of(d.anyStep()) },
		reflect.TypeFor[node.Letter]():        func() reflect.Value { return of(net.Letter{From: 1, To: 2, B: d.raw()}) },
		reflect.TypeFor[[]pack.Val]():         func() reflect.Value { return of([]pack.Val{{Kind: 1, N: d.number()}, {Kind: 3, B: d.raw()}}) },
		reflect.TypeFor[api.Verdict]():        func() reflect.Value { return of(api.Verdict{Code: api.Errno(d.IntN(5)), Num: d.Int64N(9)}) },
		reflect.TypeFor[snap.Snap](): func() reflect.Value {
			return of(snap.Snap{Index: 1 + d.Int64N(9), Term: d.Int64N(3), Conf: d.members(), Data: machine.New(cert.Conf{}).Bytes()})
		},
	}
}

// right is a right submission.
func (d dice) right() api.Sub {
	s := d.sub()
	s.Session, s.Seq, s.Snap = 1+d.Int64N(3), 1+d.Int64N(12), d.Int64N(4)
	s, _ = sub.Canon(s)
	return s
}

func (d dice) members() api.Conf {
	c := api.Conf{Voters: []int{1}}
	for n := 2; n <= 5; n++ {
		switch d.IntN(3) {
		case 0:
			c.Voters = append(c.Voters, n)
		case 1:
			c.Learners = append(c.Learners, n)
		}
	}
	return c
}

func (d dice) entry(index int64) api.Entry {
	e := api.Entry{Index: index, Term: 1}
	switch d.IntN(3) {
	case 0:
		e.Kind = api.Submit
		e.Data, _ = sub.Encode(d.right())
	case 1:
		e.Kind = api.Change
		e.Data, _ = conf.Bytes(d.members())
	}
	return e
}

// message is a right one.
func (d dice) message() api.Msg {
	m := api.Msg{Kind: 1 + d.IntN(8), From: 2 + d.IntN(3), To: 1, Term: 1 + d.Int64N(3)}
	switch m.Kind {
	case api.PreAsk, api.Ask:
		m.Index, m.LogTerm = d.Int64N(5), d.Int64N(3)
	case api.PreSay, api.Say:
		m.Ok = d.IntN(2) == 0
	case api.Append:
		m.Index, m.Commit = d.Int64N(4), d.Int64N(7)
		m.LogTerm = min(1, m.Index)
		for i := range d.Int64N(4) {
			m.Entries = append(m.Entries, d.entry(m.Index+1+i))
		}
	case api.Got:
		m.Ok, m.Index = d.IntN(2) == 0, d.Int64N(7)
	case api.Piece:
		m.Index, m.LogTerm, m.Conf, m.Last = 1+d.Int64N(9), 1, d.members(), d.IntN(2) == 0
		m.Data = machine.New(cert.Conf{}).Bytes()
	case api.Took:
		m.Index, m.Off, m.Last = 1+d.Int64N(9), d.Int64N(99), d.IntN(2) == 0
	}
	return m
}

// raw are bytes of something, perhaps with one of them turned.
func (d dice) raw() []byte {
	var b []byte
	m := machine.New(cert.Conf{Keep: 4, Old: 4})
	for i := range d.Int64N(6) {
		m.Apply(d.entry(i + 1))
	}
	switch d.IntN(8) {
	case 0:
		b, _ = sub.Encode(d.right())
	case 1:
		b, _ = msg.Encode(d.message())
	case 2:
		b, _ = conf.Bytes(d.members())
	case 3:
		b, _ = snap.Bytes(snap.Snap{Index: 1, Conf: d.members(), Data: m.Bytes()})
	case 4:
		b = m.Bytes()
	case 5:
		b = cert.New(cert.Conf{}).Bytes()
	case 6:
		t := sess.New()
		t.Put(1, 1+d.Int64N(9), api.Verdict{Num: 1})
		b = t.Bytes()
	default:
		b, _ = pack.Frame([]byte{1, 2, 3})
	}
	if d.IntN(3) == 0 && len(b) > 0 {
		b[d.IntN(len(b))] ^= byte(1 << d.IntN(8))
	}
	return b
}

// disk is one on which something lies.
func (d dice) disk() *disk.Disk {
	x := disk.New()
	for range d.IntN(4) {
		name := d.text()
		x.Create(name)
		x.Write(name, 0, d.raw())
		if d.IntN(2) == 0 {
			x.Sync(name)
		}
	}
	switch d.IntN(8) {
	case 0:
		x.Fail(d.IntN(5))
	case 1: // without power
		x.Fail(1)
		x.Remove("")
	}
	return x
}

func (d dice) log() *rlog.Log {
	l := rlog.New(d.Int64N(3), d.Int64N(2), d.members())
	base, _ := l.Base()
	for i := range d.Int64N(5) {
		l.Append(d.entry(base + 1 + i))
	}
	return l
}

// reader reads anything; it doesn't panic by itself.
func (d dice) reader() func(*pack.Reader) {
	kinds := make([]int, d.IntN(5))
	for i := range kinds {
		kinds[i] = d.IntN(7)
	}
	most, code := int(d.number()), api.Errno(d.IntN(3))
	return func(r *pack.Reader) {
		for _, k := range kinds {
			switch k {
			case 0, 1:
				r.Num()
			case 2:
				r.Key()
			case 3:
				r.Bytes()
			case 4:
				r.Flag()
			case 5:
				r.Count(most)
			case 6:
				r.Fail(code)
			}
		}
	}
}

// at15 is a function for layer 15's Middle, one that panics too.
func (d dice) at15() func(n int) int64 {
	return pick(d, func(n int) int64 { return int64(n) }, func(n int) int64 { return math.MinInt64 }, func(int) int64 { panic("none") })
}

// history is a right one, often.
func (d dice) history() []api.Done {
	c := cert.New(cert.Conf{Keep: 32, Old: 64})
	for range d.IntN(12) {
		c.Decide(d.right())
	}
	return c.Recent()
}

func (d dice) anyStep() world.Step {
	return world.Step{Kind: 1 + d.IntN(12), N: 1 + d.IntN(3), A: int(d.number()), B: int(d.number()), Sub: d.sub(), Keep: d.keep()}
}

func (d dice) arguments(f reflect.Type, from int) []reflect.Value {
	var out []reflect.Value
	for i := from; i < f.NumIn(); i++ {
		out = append(out, d.value(f.In(i)))
	}
	return out
}

func call(f reflect.Value, in []reflect.Value) []reflect.Value {
	if f.Type().IsVariadic() {
		return f.CallSlice(in)
	}
	return f.Call(in)
}

// say tells an answer, of objects only whether they are there.
func say(v reflect.Value) string {
	switch v.Kind() {
	case reflect.Pointer:
		return fmt.Sprint("there: ", !v.IsNil())
	case reflect.Float64:
		return fmt.Sprintf("%x", math.Float64bits(v.Float()))
	case reflect.Slice:
		var out []string
		for i := range v.Len() {
			out = append(out, say(v.Index(i)))
		}
		return fmt.Sprint(out)
	case reflect.Struct:
		var out []string
		for i := range v.NumField() {
			out = append(out, say(v.Field(i)))
		}
		return fmt.Sprint(out)
	}
	return fmt.Sprint(v)
}

func sayAll(vs []reflect.Value) string {
	var out []string
	for _, v := range vs {
		out = append(out, say(v))
	}
	return strings.Join(out, ", ")
}

// tried calls a function with anything, and, if it makes an object, all calls of that, in any order: what is answered, line by line. (Most Calms are short, for time's sake.)
func tried(d dice, f any, times int) []string {
	out := call(reflect.ValueOf(f), d.arguments(reflect.TypeOf(f), 0))
	lines := []string{sayAll(out)}
	if out[0].Kind() != reflect.Pointer || out[0].IsNil() {
		return lines
	}
	x := out[0]
	for range times {
		m := x.Type().Method(d.IntN(x.NumMethod()))
		in := d.arguments(m.Type, 1)
		if m.Name == "Calm" && d.IntN(40) > 0 {
			in[0] = reflect.ValueOf(d.IntN(15))
		}
		lines = append(lines, m.Name+": "+sayAll(call(x.Method(m.Index), in)))
	}
	return lines
}

// P1, P2: every call ends, and doesn't panic, whatever it is given; the same calls are answered the same, again and again.
func TestEveryCall(t *testing.T) {
	for layer, fs := range calls() {
		for i, f := range fs {
			t.Run(fmt.Sprint(layer, " ", i), func(t *testing.T) {
				t.Parallel()
				times, runs := 40, 150
				if reflect.TypeOf(f).Out(0).Kind() != reflect.Pointer {
					times, runs = 0, 1000
				}
				answers := map[string]bool{}
				for seed := range runs {
					one := tried(seeded(1, seed), f, times)
					two := tried(seeded(1, seed), f, times)
					if !slices.Equal(one, two) {
						t.Fatalf("seed %d: one time\n%v, another time\n%v", seed, one, two)
					}
					answers[one[0]] = true
				}
				if len(answers) < 2 && reflect.TypeOf(f).NumOut() > 1 {
					t.Errorf("all answers are %v", answers)
				}
			})
		}
	}
}

// P2: a script has one outcome: two Worlds tell the same behind each step.
func TestOneOutcome(t *testing.T) {
	for i := range 8 {
		t.Run(fmt.Sprint(i), func(t *testing.T) {
			t.Parallel()
			for seed := range 20 {
				d := seeded(2, 1000*i+seed)
				c := d.conf()
				x, y := watch(t, c), watch(t, c)
				x.seen.world.Calm(d.IntN(30))
				var script []world.Step
				d.script(x.seen, 150, func(s world.Step) api.Errno {
					script = append(script, s)
					return x.do(s)
				})
				d = seeded(2, 1000*i+seed)
				d.conf()
				y.seen.world.Calm(d.IntN(30))
				for _, s := range script {
					y.do(s)
				}
				for range 2 {
					sameWorlds(t, x, y)
					x.seen.world.Calm(40)
					y.seen.world.Calm(40)
				}
				sameWorlds(t, x, y)
			}
		})
	}
}

func sameWorlds(t *testing.T, x, y *watched) {
	t.Helper()
	a, b := x.seen.world, y.seen.world
	same := slices.Equal(a.Decided(), b.Decided()) && slices.EqualFunc(a.History(), b.History(), sameDone) && a.Leader() == b.Leader()
	for n := 1; n <= x.seen.all(); n++ {
		if (a.Node(n) == nil) != (b.Node(n) == nil) {
			t.Fatalf("%d is up in one alone", n)
		}
		if a.Node(n) != nil {
			same = same && slices.Equal(a.Node(n).Machine().Bytes(), b.Node(n).Machine().Bytes()) && a.Node(n).Core().Term() == b.Node(n).Core().Term()
		}
	}
	for n := 1; n <= x.seen.c.Clients; n++ {
		same = same && slices.Equal(a.Client(n).Results(), b.Client(n).Results()) && slices.Equal(a.Client(n).Open(), b.Client(n).Open()) && a.Client(n).Target() == b.Client(n).Target()
	}
	if !same {
		t.Fatal("two Worlds tell unlike things of one script")
	}
}
