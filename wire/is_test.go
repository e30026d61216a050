package wire_test

import (
	"math"
	"math/rand/v2"
	"reflect"
	"strings"
	"testing"

	"paddock/api"
	"paddock/objects"
	"paddock/wire"
)

// checkIs: Is tells want of m, and Encode goes by it.
func checkIs(t *testing.T, name string, m api.Msg, want bool) {
	t.Helper()
	if got := wire.Is(m); got != want {
		t.Errorf("P12.1: %s: Is(%+v): %v", name, m, got)
	}
	b, e := wire.Encode(m)
	if want && (e != api.OK || len(b) == 0) || !want && (e != api.ErrForm || len(b) != 0) {
		t.Errorf("P12.2: %s: Encode(%+v): %d bytes, %v", name, m, len(b), e)
	}
}

func checkNone(t *testing.T, name string, m api.Msg) {
	t.Helper()
	checkIs(t, name, m, false)
}

func TestMessagesAre(t *testing.T) {
	for _, m := range append(ordinary(), messages()...) {
		checkIs(t, "right", m, true)
	}
}

// TestTheWordsAreTheSame: the tests' own reading of the table takes what they hold to be right.
func TestTheWordsAreTheSame(t *testing.T) {
	seen := map[uint8]int{}
	for _, m := range append(ordinary(), messages()...) {
		seen[m.Kind]++
		if !isMessage(m) {
			t.Errorf("no message: %+v", m)
		}
	}
	if len(seen) != 18 {
		t.Errorf("%d kinds", len(seen))
	}
}

func TestNoKind(t *testing.T) {
	for kind := range 256 {
		if kind >= api.MPrepare && kind <= api.MNack {
			continue
		}
		checkNone(t, "no kind", api.Msg{Kind: uint8(kind)})
		for _, m := range ordinary() {
			checkNone(t, "no kind", with(m, func(m *api.Msg) { m.Kind = uint8(kind) }))
		}
	}
}

// TestAKindOfOthers: what is right of one kind is right of no other that has something else.
func TestAKindOfOthers(t *testing.T) {
	for _, m := range append(ordinary(), messages()...) {
		for kind := range uint8(19) {
			x := with(m, func(m *api.Msg) { m.Kind = kind })
			if got, want := wire.Is(x), isMessage(x); got != want {
				t.Errorf("P12.1: as kind %d: %+v: %v, not %v", kind, m, got, want)
			}
		}
	}
}

// sent: m, all right if it goes from there to there.
func sent(m api.Msg, from, to uint8) api.Msg {
	m.From, m.To = from, to
	switch m.Kind {
	case api.MPrepare, api.MAccept:
		m.B.Who = from
	case api.MPromise, api.MAccepted:
		m.B.Who = to
	case api.MOp:
		m.Op.Client = from - 20
	case api.MReply:
		m.Op.Client = to - 20
	}
	return m
}

// TestFromAndTo goes through all pairs of numbers.
func TestFromAndTo(t *testing.T) {
	pairs := map[string]int{"MM": 6, "MD": 15, "DM": 15, "DD": 20, "CD": 15, "DC": 15}
	for kind, w := range words {
		want, found := 0, 0
		for _, pair := range strings.Fields(w.ends) {
			want += pairs[pair]
		}
		one := ordinaryOf(kind)
		for from := range 256 {
			for to := range 256 {
				m := sent(one, uint8(from), uint8(to))
				right := from != to && strings.Contains(w.ends, letter(m.From)+letter(m.To))
				if right {
					found++
				}
				if got := wire.Is(m); got != right {
					t.Errorf("P12.1: kind %d from %d to %d: %v", kind, from, to, got)
				}
			}
		}
		if found != want {
			t.Errorf("kind %d: %d pairs are right, not %d", kind, found, want)
		}
	}
}

func TestFromAndToAlike(t *testing.T) {
	for kind := uint8(api.MPrepare); kind <= api.MNack; kind++ {
		for node := range 256 {
			checkNone(t, "alike", sent(ordinaryOf(kind), uint8(node), uint8(node)))
		}
	}
}

func TestEpochs(t *testing.T) {
	least := [...]uint32{api.MPrepare: 2, api.MPromise: 2, api.MAccept: 2, api.MAccepted: 2, api.MLearn: 2, api.MAsk: 1, api.MQuery: 1, api.MInfo: 1, api.MPush: 1, api.MHave: 1, api.MRep: 1, api.MRepAck: 1, api.MCheck: 1, api.MCheckAck: 1, api.MOp: 0, api.MReply: 0, api.MReport: 0, api.MNack: 2}
	for kind := uint8(api.MPrepare); kind <= api.MNack; kind++ {
		most := uint32(api.MaxEpoch)
		if least[kind] == 0 {
			most = 0
		}
		for _, epoch := range []uint32{0, 1, 2, 3, 30, api.MaxEpoch - 1, api.MaxEpoch, api.MaxEpoch + 1, 62, 255, 256, 257, 258, 1<<16 + 2, 1<<24 + 2, 1 << 31, math.MaxUint32} {
			m := with(ordinaryOf(kind), func(m *api.Msg) { m.Epoch = epoch })
			checkIs(t, "Epoch", m, epoch >= least[kind] && epoch <= most)
		}
	}
}

// TestBallots goes through all that a ballot may be, between all monitors.
func TestBallots(t *testing.T) {
	for _, kind := range []uint8{api.MPrepare, api.MPromise, api.MAccept, api.MAccepted, api.MNack} {
		one := ordinaryOf(kind)
		for from := range uint8(3) {
			for to := range uint8(3) {
				for who := range 256 {
					for _, n := range []uint32{0, 1, 2, 256, 1 << 31, math.MaxUint32} {
						m := with(one, func(m *api.Msg) { m.From, m.To, m.B = from, to, at(n, uint8(who)) })
						right := n > 0 && who < 3 && from != to
						switch kind {
						case api.MPrepare, api.MAccept:
							right = right && uint8(who) == from
						case api.MPromise, api.MAccepted:
							right = right && uint8(who) == to
						}
						checkIs(t, "B", m, right)
					}
				}
			}
		}
	}
}

func TestPromises(t *testing.T) {
	bare := api.Msg{Kind: api.MPromise, From: 0, To: 1, Epoch: 2, B: at(7, 1)}
	checkIs(t, "nothing accepted", bare, true)
	for who := range 256 {
		for _, n := range []uint32{0, 1, 7, 8, math.MaxUint32} {
			m := with(bare, func(m *api.Msg) { m.Has, m.Acc, m.Inc = true, at(n, uint8(who)), down(4) })
			checkIs(t, "Acc", m, n > 0 && who < 3)
			checkNone(t, "Acc and Inc without Has", with(m, func(m *api.Msg) { m.Has = false }))
			checkIs(t, "Acc without Has and Inc", with(m, func(m *api.Msg) { m.Has, m.Inc = false, api.Inc{} }), n == 0 && who == 0)
		}
	}
	has := with(bare, func(m *api.Msg) { m.Has, m.Acc = true, at(2, 2) })
	for _, x := range incs() {
		checkIs(t, "Inc", with(has, func(m *api.Msg) { m.Inc = x }), true)
		checkNone(t, "Inc without Has", with(bare, func(m *api.Msg) { m.Inc = x }))
		checkNone(t, "Inc without Acc", with(bare, func(m *api.Msg) { m.Has, m.Inc = true, x }))
	}
	checkNone(t, "Has alone", with(bare, func(m *api.Msg) { m.Has = true }))
	checkNone(t, "Has and Acc alone", has)
}

func TestIncrements(t *testing.T) {
	for _, kind := range []uint8{api.MPromise, api.MAccept, api.MLearn} {
		for _, x := range incs() {
			checkIs(t, "Inc", with(ordinaryOf(kind), func(m *api.Msg) { m.Inc = x }), true)
		}
		for _, x := range noIncs() {
			checkNone(t, "no Inc", with(ordinaryOf(kind), func(m *api.Msg) { m.Inc = x }))
			checkNone(t, "no Inc, no Has", with(ordinaryOf(kind), func(m *api.Msg) { m.Has, m.Inc = !m.Has, x }))
		}
	}
}

func TestGroups(t *testing.T) {
	for kind := range words {
		for group := range 256 {
			right := group == 0 || has(kind, "Group") && group < api.Groups
			checkIs(t, "Group", with(ordinaryOf(kind), func(m *api.Msg) { m.Group = uint8(group) }), right)
		}
	}
}

func TestStates(t *testing.T) {
	for _, s := range states() {
		checkIs(t, "State", with(ordinaryOf(api.MInfo), func(m *api.Msg) { m.State = s }), true)
	}
	for _, s := range noStates() {
		checkNone(t, "no State", with(ordinaryOf(api.MInfo), func(m *api.Msg) { m.State = s }))
	}
}

func push(d api.Diff) api.Msg {
	return with(ordinaryOf(api.MPush), func(m *api.Msg) { m.Diff = d })
}

func TestDifferences(t *testing.T) {
	for _, d := range diffs() {
		checkIs(t, "Diff", push(d), true)
		for _, kind := range []int{math.MinInt, -1, 3, 4, 255, 256, 257, 258, 1<<32 + 1, math.MaxInt} {
			d.Kind = kind
			checkNone(t, "no Kind", push(d))
		}
	}
}

// TestDifferencesOfEachKind: what each of the three takes, where the others may not.
func TestDifferencesOfEachKind(t *testing.T) {
	whole := states()[8]
	log := entries(3, 13, 2, "ab")
	onlyBase, onlyLog := api.State{Base: someBase()}, api.State{Log: entries(1, 0, 1, "a")}
	for _, c := range []struct {
		name string
		d    api.Diff
		of   [3]bool // right of Kind 0, 1, 2
	}{
		{"nothing", api.Diff{}, [3]bool{true, true, true}},
		{"an empty Log", api.Diff{Log: []api.Entry{}}, [3]bool{true, true, true}},
		{"From", api.Diff{From: 1}, [3]bool{false, true, false}},
		{"the greatest From", api.Diff{From: math.MaxUint32}, [3]bool{false, true, false}},
		{"Log", api.Diff{Log: log}, [3]bool{false, true, false}},
		{"From and Log", api.Diff{From: 13, Log: log}, [3]bool{false, true, false}},
		{"From elsewhere than Log", api.Diff{From: 5, Log: log}, [3]bool{false, true, false}},
		{"Started and Tail", api.Diff{Whole: ends(whole)}, [3]bool{true, true, true}},
		{"the greatest ones", api.Diff{Whole: api.State{Started: 60, Tail: api.Entry{Since: 60, N: math.MaxUint32}}}, [3]bool{true, true, true}},
		{"Whole", api.Diff{Whole: whole}, [3]bool{false, false, true}},
		{"Whole with a base alone", api.Diff{Whole: onlyBase}, [3]bool{false, false, true}},
		{"Whole with a log alone", api.Diff{Whole: onlyLog}, [3]bool{false, false, true}},
		{"Whole with an empty log", api.Diff{Whole: api.State{Log: []api.Entry{}}}, [3]bool{true, true, true}},
		{"From, Log and Whole", api.Diff{From: 13, Log: log, Whole: whole}, [3]bool{}},
		{"Started above", api.Diff{Whole: api.State{Started: 61}}, [3]bool{}},
		{"Tail's Since above", api.Diff{Whole: api.State{Tail: api.Entry{Since: 61}}}, [3]bool{}},
		{"Tail's Op", api.Diff{Whole: api.State{Tail: api.Entry{Op: write(1, 1, "a")}}}, [3]bool{}},
		{"Tail's Op's Obj", api.Diff{Whole: api.State{Tail: api.Entry{Op: api.Op{Obj: 1}}}}, [3]bool{}},
	} {
		for kind, right := range c.of {
			c.d.Kind = kind
			checkIs(t, c.name, push(c.d), right)
		}
	}
	for _, s := range noStates() {
		for kind := range 3 {
			checkNone(t, "no Whole", push(api.Diff{Kind: kind, Whole: s}))
		}
	}
}

func TestLogsOfDifferences(t *testing.T) {
	for length := range 300 {
		checkIs(t, "Log", push(api.Diff{Kind: 1, From: 40, Log: entries(3, 40, length, "a")}), length <= api.MaxLog)
	}
	for name, bend := range map[string]func(l []api.Entry){
		"a number left out":       func(l []api.Entry) { l[2].N++ },
		"a number twice":          func(l []api.Entry) { l[2].N-- },
		"the number 0":            func(l []api.Entry) { l[0].N = 0 },
		"numbers from 0 on":       func(l []api.Entry) { l[0].N, l[1].N, l[2].N = 0, 1, 2 },
		"numbers that go round":   func(l []api.Entry) { l[0].N, l[1].N, l[2].N = math.MaxUint32, 0, 1 },
		"numbers that go down":    func(l []api.Entry) { l[0], l[2] = l[2], l[0] },
		"an interval that is ago": func(l []api.Entry) { l[1].Since = 2 },
		"an interval above":       func(l []api.Entry) { l[2].Since = 61 },
		"all intervals above":     func(l []api.Entry) { l[0].Since, l[1].Since, l[2].Since = 61, 61, 61 },
		"a read":                  func(l []api.Entry) { l[1].Op = read(1, 1) },
		"no operation":            func(l []api.Entry) { l[0].Op = api.Op{} },
		"an operation too long":   func(l []api.Entry) { l[2].Op.Data = long() },
	} {
		l := entries(3, 40, 3, "a")
		bend(l)
		checkNone(t, name, push(api.Diff{Kind: 1, From: 40, Log: l}))
	}
	for name, bend := range map[string]func(l []api.Entry){
		"intervals that go up":  func(l []api.Entry) { l[1].Since, l[2].Since = 9, 60 },
		"intervals from 0 on":   func(l []api.Entry) { l[0].Since = 0 },
		"numbers from 1 on":     func(l []api.Entry) { l[0].N, l[1].N, l[2].N = 1, 2, 3 },
		"numbers up to the end": func(l []api.Entry) { l[0].N, l[1].N, l[2].N = math.MaxUint32-2, math.MaxUint32-1, math.MaxUint32 },
	} {
		l := entries(3, 40, 3, "a")
		bend(l)
		checkIs(t, name, push(api.Diff{Kind: 1, From: 40, Log: l}), true)
	}
}

func TestEntries(t *testing.T) {
	for _, since := range []uint32{0, 1, 2, 59, api.MaxEpoch, api.MaxEpoch + 1, 256, 257, math.MaxUint32} {
		for _, n := range []uint32{0, 1, 256, math.MaxUint32} {
			for _, o := range append(ops(3), noOps(3)...) {
				m := with(ordinaryOf(api.MRep), func(m *api.Msg) { m.Entry = api.Entry{Since: since, N: n, Op: o} })
				checkIs(t, "Entry", m, since >= 1 && since <= 60 && n > 0 && objects.IsOp(o) && o.Kind != api.ORead)
			}
		}
	}
}

// TestOperations: a read of any client between daemons; any operation of just that client, where one asks or is told.
func TestOperations(t *testing.T) {
	all := ordinary()
	for who := range 256 {
		client := uint8(who)
		for i, o := range append(ops(client), noOps(client)...) {
			right := i < len(ops(client)) && who >= 1 && who <= 3
			for _, kind := range []uint8{api.MCheck, api.MCheckAck} {
				checkIs(t, "Op", with(all[kind-1], func(m *api.Msg) { m.Op = o }), right && o.Kind == api.ORead)
			}
			for node := uint8(21); node <= 23; node++ {
				for _, kind := range []uint8{api.MOp, api.MReply} {
					m := with(all[kind-1], func(m *api.Msg) { m.Op = o })
					if kind == api.MOp {
						m.From = node
					} else {
						m.To = node
					}
					checkIs(t, "Op", m, right && 20+who == int(node))
				}
			}
		}
	}
}

func TestResults(t *testing.T) {
	for code := range 256 {
		for _, length := range []int{0, 1, api.MaxData, api.MaxData + 1, 79, 80, 81, 256, 65535, 65536, 65536 + 80} {
			m := with(ordinaryOf(api.MReply), func(m *api.Msg) { m.R = api.Result{Code: uint8(code), Data: strings.Repeat("r", length)} })
			checkIs(t, "R", m, code <= 3 && length <= 80)
		}
	}
}

func TestNumbers(t *testing.T) {
	for _, n := range []uint32{0, 1, 2, 3, 4, 5, 6, 14, 255, 256, 257, 1 << 16, 1 << 31, math.MaxUint32} {
		for kind := range words {
			right := n == 0
			switch kind {
			case api.MHave, api.MRepAck:
				right = true
			case api.MReport:
				right = n < 5
			}
			checkIs(t, "N", with(ordinaryOf(kind), func(m *api.Msg) { m.N = n }), right)
		}
	}
}

// TestWhatAKindDoesNotHave sets each single thing that it doesn't have, and has others' whole parts there.
func TestWhatAKindDoesNotHave(t *testing.T) {
	all := api.Msg{State: api.State{Log: make([]api.Entry, 1)}, Diff: api.Diff{Log: make([]api.Entry, 1), Whole: api.State{Log: make([]api.Entry, 1)}}}
	for kind, w := range words {
		for i := range leaves(&all) {
			m := ordinaryOf(kind)
			room := twin(all)
			x := leaves(&room)[i]
			if has(kind, x.field()) || strings.Contains("Kind From To Epoch", x.field()) {
				continue
			}
			x.nudge()
			lend(&m, room, x.field())
			checkNone(t, x.path, m)
		}
		for _, other := range ordinary() {
			for _, field := range strings.Fields(words[other.Kind].has) {
				if m := ordinaryOf(kind); !has(kind, field) {
					lend(&m, other, field)
					checkNone(t, field+" beside "+w.has, m)
				}
			}
		}
		m := ordinaryOf(kind)
		m.State.Log, m.Diff.Log, m.Diff.Whole.Log = append(m.State.Log, []api.Entry{}...), append([]api.Entry{}, m.Diff.Log...), make([]api.Entry, 0, 3)
		checkIs(t, "empty lists", m, true)
	}
}

// lend: m's field is from's.
func lend(m *api.Msg, from api.Msg, field string) {
	reflect.ValueOf(m).Elem().FieldByName(field).Set(reflect.ValueOf(from).FieldByName(field))
}

// TestEachThingByItself nudges each single thing of many messages, and holds Is against the tests' own reading.
func TestEachThingByItself(t *testing.T) {
	for _, m := range append(ordinary(), messages()...) {
		x := twin(m)
		for _, l := range leaves(&x) {
			back := l.nudge()
			if wire.Is(x) != isMessage(x) {
				t.Errorf("P12.1: %s: %+v: %v", l.path, x, wire.Is(x))
			}
			back()
		}
	}
}

// bentMessage: a message with some things thrown about; many stay messages.
func bentMessage(r *rand.Rand, l []api.Msg) api.Msg {
	m := twin(l[r.IntN(len(l))])
	for range r.IntN(4) {
		all := leaves(&m)
		all[r.IntN(len(all))].throw(r)
		if other := l[r.IntN(len(l))]; r.IntN(8) == 0 {
			fields := strings.Fields(words[other.Kind].has + " B")
			lend(&m, twin(other), fields[r.IntN(len(fields))])
		}
	}
	return m
}

func TestThrownAbout(t *testing.T) {
	r := rand.New(rand.NewPCG(12, 1))
	l := append(ordinary(), messages()...)
	right := 0
	for range 20000 {
		m := bentMessage(r, l)
		want := isMessage(m)
		if want {
			right++
		}
		checkIs(t, "thrown about", m, want)
	}
	if right < 2500 || right > 17500 {
		t.Errorf("%d of 20000 are right", right)
	}
}
