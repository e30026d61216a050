package wire_test

import (
	"math"
	"slices"
	"strings"

	"paddock/api"
)

func full() string { return strings.Repeat("f", api.MaxData) }

func long() string { return full() + "g" }

func at(n uint32, who uint8) api.Ballot { return api.Ballot{N: n, Who: who} }

func down(osd uint8) api.Inc { return api.Inc{Kind: api.IDown, Osd: osd} }

func write(client uint8, seq uint32, data string) api.Op {
	return api.Op{Client: client, Seq: seq, Kind: api.OWrite, Obj: 2, At: 1, Data: data}
}

func read(client uint8, seq uint32) api.Op {
	return api.Op{Client: client, Seq: seq, Kind: api.ORead, Obj: 5}
}

// incs: increments at the edges of each kind.
func incs() []api.Inc {
	return []api.Inc{
		{Kind: api.IUp}, {Kind: api.IUp, Osd: 4}, {Kind: api.IDown}, {Kind: api.IDown, Osd: 4}, {Kind: api.INone},
		{Kind: api.IWeight}, {Kind: api.IWeight, Osd: 4, N: 1}, {Kind: api.IWeight, Osd: 2, N: api.MaxWeight},
	}
}

// noIncs: by each of an increment's parts; some would be one if they were cut to a byte.
func noIncs() []api.Inc {
	return []api.Inc{
		{}, {Osd: 1}, {N: 1}, {Kind: api.INone + 1}, {Kind: 255}, {Kind: api.IUp, Osd: api.Osds}, {Kind: api.IDown, Osd: 255},
		{Kind: api.IUp, N: 1}, {Kind: api.IDown, N: -1}, {Kind: api.IUp, N: 256}, {Kind: api.IDown, N: math.MinInt}, {Kind: api.INone, Osd: 1}, {Kind: api.INone, N: 256},
		{Kind: api.IWeight, N: -1}, {Kind: api.IWeight, N: api.MaxWeight + 1}, {Kind: api.IWeight, N: 256}, {Kind: api.IWeight, N: 256 + 8}, {Kind: api.IWeight, N: 1<<32 + 8}, {Kind: api.IWeight, N: math.MinInt}, {Kind: api.IWeight, N: math.MaxInt},
	}
}

// ops: operations of a client at the edges of each kind.
func ops(client uint8) []api.Op {
	return []api.Op{
		{Client: client, Seq: 1, Kind: api.OWrite}, {Client: client, Seq: math.MaxUint32, Kind: api.OWrite, Obj: 5, At: 255, Data: full()},
		{Client: client, Seq: 2, Kind: api.OTrunc, Obj: 1}, {Client: client, Seq: 258, Kind: api.OTrunc, Obj: 1, At: 255},
		{Client: client, Seq: 1 << 31, Kind: api.OAttr, Obj: 3, At: 255, Data: "\x00\xff"}, {Client: client, Seq: 65536, Kind: api.OAttr, Obj: 3, At: 2, Data: full()},
		{Client: client, Seq: 3, Kind: api.ODelete}, {Client: client, Seq: math.MaxUint32, Kind: api.ODelete, Obj: 5},
		{Client: client, Seq: 4, Kind: api.ORead}, {Client: client, Seq: math.MaxUint32, Kind: api.ORead, Obj: 5},
	}
}

// noOps: like operations of a client, but for one thing.
func noOps(client uint8) []api.Op {
	return []api.Op{
		{}, {Client: client, Kind: api.OWrite}, {Client: client, Seq: 1}, {Client: client, Seq: 1, Kind: api.ORead + 1}, {Client: client, Seq: 1, Kind: 255},
		{Client: client, Seq: 1, Kind: api.OWrite, Obj: api.Objects}, {Client: client, Seq: 1, Kind: api.ORead, Obj: api.Objects}, {Client: client, Seq: 1, Kind: api.OWrite, Data: long()},
		{Client: client, Seq: 1, Kind: api.OAttr, Data: long()}, {Client: client, Seq: 1, Kind: api.OTrunc, Data: "x"}, {Client: client, Seq: 1, Kind: api.ODelete, Data: "x"},
		{Client: client, Seq: 1, Kind: api.ODelete, At: 1}, {Client: client, Seq: 1, Kind: api.ORead, At: 1}, {Client: client, Seq: 1, Kind: api.ORead, Data: "x"},
		{Client: client, Seq: 1, Kind: api.ORead, Data: strings.Repeat("y", 65536)},
	}
}

// base: one with all the room that there is used up.
func base() api.Base {
	var b api.Base
	for obj := range b.Objs {
		b.Objs[obj] = api.Object{There: true, Data: full(), Attr: [api.Attrs]string{full(), full(), full()}}
	}
	for c := range b.Last {
		b.Last[c] = api.Last{Seq: math.MaxUint32, R: api.Result{Code: api.RBad}}
	}
	return b
}

// someBase: one with something and nothing in turns.
func someBase() api.Base {
	return api.Base{
		Objs: [api.Objects]api.Object{{There: true, Data: "\x00ab", Attr: [api.Attrs]string{"", "v", ""}}, {}, {There: true}, {There: true, Attr: [api.Attrs]string{"k", "", full()}}, {}, {There: true, Data: full()}},
		Last: [api.Clients]api.Last{{Seq: 7}, {}, {Seq: 1 << 24, R: api.Result{Code: api.RLong}}},
	}
}

// entries: so many behind number n, of that interval.
func entries(since, n uint32, length int, data string) []api.Entry {
	var l []api.Entry
	for i := range uint32(length) {
		l = append(l, api.Entry{Since: since, N: n + 1 + i, Op: write(uint8(i%3)+1, 100+i, data)})
	}
	return l
}

// states: at the edges of their form, with logs of each length.
func states() []api.State {
	l := []api.State{
		{}, {Log: []api.Entry{}}, {Started: api.MaxEpoch}, {Tail: api.Entry{Since: api.MaxEpoch}}, {Tail: api.Entry{N: math.MaxUint32}}, {Base: base()}, {Started: 18, Base: someBase()},
		{Tail: api.Entry{N: math.MaxUint32 - 1}, Log: []api.Entry{{N: math.MaxUint32, Op: write(1, 1, "")}}},
		{Started: 1, Base: someBase(), Tail: api.Entry{Since: 3, N: 9}, Log: []api.Entry{{Since: 3, N: 10, Op: ops(1)[2]}, {Since: 3, N: 11, Op: ops(2)[4]}, {Since: 59, N: 12, Op: ops(3)[7]}, {Since: 60, N: 13, Op: ops(1)[1]}}},
	}
	for length := range api.MaxLog + 1 {
		l = append(l, api.State{Started: 9, Base: someBase(), Tail: api.Entry{Since: 2, N: 40}, Log: entries(3, 40, length, "xyz")})
	}
	return append(l, longest())
}

// longest: the state that takes the most bytes.
func longest() api.State {
	return api.State{Started: api.MaxEpoch, Base: base(), Tail: api.Entry{Since: api.MaxEpoch, N: 1 << 24}, Log: entries(api.MaxEpoch, 1<<24, api.MaxLog, full())}
}

// noStates: like states, but for one thing; some would be one if they were cut to what lies in bytes.
func noStates() []api.State {
	var l []api.State
	for _, bend := range []func(s *api.State){
		func(s *api.State) { s.Started = api.MaxEpoch + 1 },
		func(s *api.State) { s.Started = math.MaxUint32 },
		func(s *api.State) { s.Tail.Since = api.MaxEpoch + 1 },
		func(s *api.State) { s.Tail.N++ },
		func(s *api.State) { s.Tail.Op.Client = 1 },
		func(s *api.State) { s.Tail.Op = write(1, 1, "a") },
		func(s *api.State) { s.Log[0].Since = 1 },
		func(s *api.State) { s.Log[1].N = 0 },
		func(s *api.State) { s.Log[1], s.Log[2] = s.Log[2], s.Log[1] },
		func(s *api.State) { s.Log[2].Op = read(1, 1) },
		func(s *api.State) { s.Log[2].Since = api.MaxEpoch + 1 },
		func(s *api.State) { s.Log = entries(3, 40, api.MaxLog+1, "a") },
		func(s *api.State) { s.Log = entries(3, 40, 256, "a") },
		func(s *api.State) { s.Log = entries(3, 40, 257, "a") },
		func(s *api.State) { s.Base.Objs[1].Data = "x" },
		func(s *api.State) { s.Base.Objs[1].Attr[2] = "x" },
		func(s *api.State) { s.Base.Objs[0].Data = long() },
		func(s *api.State) { s.Base.Objs[5].Attr[0] = long() },
		func(s *api.State) { s.Base.Last[0].R.Code = api.RBad + 1 },
		func(s *api.State) { s.Base.Last[0].R.Data = "x" },
		func(s *api.State) { s.Base.Last[1].R.Code = 1 },
		func(s *api.State) { s.Base.Last[1].R.Data = "x" },
	} {
		s := api.State{Started: 9, Base: someBase(), Tail: api.Entry{Since: 2, N: 40}, Log: entries(3, 40, 4, "xyz")}
		bend(&s)
		l = append(l, s)
	}
	return l
}

// ends: what a difference tells of a state where it doesn't tell all of it.
func ends(s api.State) api.State { return api.State{Started: s.Started, Tail: s.Tail} }

// diffs: of each kind, with logs of each length.
func diffs() []api.Diff {
	var l []api.Diff
	for _, s := range states() {
		l = append(l, api.Diff{Whole: ends(s)}, api.Diff{Log: []api.Entry{}, Whole: ends(s)}, api.Diff{Kind: 1, From: s.Tail.N, Log: s.Log, Whole: ends(s)}, api.Diff{Kind: 2, Whole: s})
	}
	for length := range api.MaxLog + 1 {
		l = append(l, api.Diff{Kind: 1, From: 45, Log: entries(60, 45, length, full()), Whole: ends(longest())})
	}
	return append(l,
		api.Diff{Kind: 1}, api.Diff{Kind: 1, From: math.MaxUint32}, api.Diff{Kind: 1, Log: []api.Entry{{N: 1, Op: write(1, 1, "a")}}},
		api.Diff{Kind: 1, From: math.MaxUint32 - 1, Log: []api.Entry{{Since: 60, N: math.MaxUint32, Op: write(1, 1, "a")}}},
		api.Diff{Kind: 1, From: 3, Log: []api.Entry{{Since: 1, N: 4, Op: ops(1)[4]}, {Since: 1, N: 5, Op: ops(2)[6]}, {Since: 9, N: 6, Op: ops(3)[3]}}},
	)
}

// messages: right ones of each kind, at the edges of all that it has.
func messages() []api.Msg {
	var l []api.Msg
	l = append(l, rounds()...)
	l = append(l, groups()...)
	l = append(l, asked()...)
	return append(l,
		api.Msg{Kind: api.MAsk, From: 10, To: 0, Epoch: 1}, api.Msg{Kind: api.MAsk, From: 14, To: 2, Epoch: api.MaxEpoch}, api.Msg{Kind: api.MAsk, From: 0, To: 1, Epoch: 1}, api.Msg{Kind: api.MAsk, From: 2, To: 1, Epoch: 2},
		api.Msg{Kind: api.MReport, From: 10, To: 0}, api.Msg{Kind: api.MReport, From: 14, To: 2, N: api.Osds - 1}, api.Msg{Kind: api.MReport, From: 12, To: 1, N: 2},
	)
}

// rounds: what monitors say to each other, and what they tell of it.
func rounds() []api.Msg {
	var l []api.Msg
	for _, epoch := range []uint32{2, 3, api.MaxEpoch} {
		for _, n := range []uint32{1, 258, math.MaxUint32} {
			l = append(l,
				api.Msg{Kind: api.MPrepare, From: 0, To: 1, Epoch: epoch, B: at(n, 0)}, api.Msg{Kind: api.MPrepare, From: 2, To: 0, Epoch: epoch, B: at(n, 2)},
				api.Msg{Kind: api.MPromise, From: 0, To: 1, Epoch: epoch, B: at(n, 1)}, api.Msg{Kind: api.MPromise, From: 2, To: 0, Epoch: epoch, B: at(n, 0)},
				api.Msg{Kind: api.MAccepted, From: 0, To: 2, Epoch: epoch, B: at(n, 2)}, api.Msg{Kind: api.MAccepted, From: 1, To: 0, Epoch: epoch, B: at(n, 0)},
			)
			for who := range uint8(3) {
				l = append(l, api.Msg{Kind: api.MNack, From: 0, To: 1, Epoch: epoch, B: at(n, who)}, api.Msg{Kind: api.MPromise, From: 0, To: 1, Epoch: epoch, B: at(7, 1), Acc: at(n, who), Has: true, Inc: down(who)})
			}
		}
		for _, x := range incs() {
			l = append(l,
				api.Msg{Kind: api.MPromise, From: 1, To: 2, Epoch: epoch, B: at(3, 2), Acc: at(2, 0), Has: true, Inc: x}, api.Msg{Kind: api.MAccept, From: 1, To: 2, Epoch: epoch, B: at(3, 1), Inc: x},
				api.Msg{Kind: api.MLearn, From: 1, To: 0, Epoch: epoch, Inc: x}, api.Msg{Kind: api.MLearn, From: 0, To: 10, Epoch: epoch, Inc: x}, api.Msg{Kind: api.MLearn, From: 2, To: 14, Epoch: epoch, Inc: x},
			)
		}
	}
	return l
}

// groups: what daemons say to each other.
func groups() []api.Msg {
	var l []api.Msg
	for i, epoch := range []uint32{1, 2, 17, api.MaxEpoch} {
		m := api.Msg{From: 10, To: 14, Epoch: epoch, Group: uint8(i)}
		l = append(l, with(m, func(m *api.Msg) { m.Kind = api.MQuery }))
		for _, s := range states() {
			l = append(l, with(m, func(m *api.Msg) { m.Kind, m.State = api.MInfo, s }))
		}
		for _, d := range diffs() {
			l = append(l, with(m, func(m *api.Msg) { m.Kind, m.Diff = api.MPush, d }))
		}
		for _, n := range []uint32{0, 1, 1 << 16, math.MaxUint32} {
			l = append(l, with(m, func(m *api.Msg) { m.Kind, m.N = api.MHave, n }), with(m, func(m *api.Msg) { m.Kind, m.N = api.MRepAck, n }))
		}
		for _, o := range ops(uint8(i%3) + 1) {
			if o.Kind == api.ORead {
				l = append(l, with(m, func(m *api.Msg) { m.Kind, m.Op = api.MCheck, o }), with(m, func(m *api.Msg) { m.Kind, m.Op = api.MCheckAck, o }))
				continue
			}
			for _, since := range []uint32{1, api.MaxEpoch} {
				l = append(l, with(m, func(m *api.Msg) { m.Kind, m.Entry = api.MRep, api.Entry{Since: since, N: 1, Op: o} }), with(m, func(m *api.Msg) { m.Kind, m.Entry = api.MRep, api.Entry{Since: since, N: math.MaxUint32, Op: o} }))
			}
		}
	}
	return l
}

// asked: what clients and daemons say to each other.
func asked() []api.Msg {
	var l []api.Msg
	for client := range uint8(3) {
		for _, o := range ops(client + 1) {
			l = append(l, api.Msg{Kind: api.MOp, From: 21 + client, To: 10 + client, Op: o})
			for code := range uint8(4) {
				for _, data := range []string{"", "x", "\x00;1=v", strings.Repeat("r", 80)} {
					l = append(l, api.Msg{Kind: api.MReply, From: 14 - client, To: 21 + client, Op: o, R: api.Result{Code: code, Data: data}})
				}
			}
		}
	}
	return l
}

// ordinary: a right message of each kind, with something in all that it has; in the order of kinds.
func ordinary() []api.Msg {
	s := states()[8]
	return []api.Msg{
		{Kind: api.MPrepare, From: 1, To: 2, Epoch: 5, B: at(3, 1)},
		{Kind: api.MPromise, From: 1, To: 2, Epoch: 5, B: at(3, 2), Acc: at(2, 0), Has: true, Inc: api.Inc{Kind: api.IWeight, Osd: 3, N: 9}},
		{Kind: api.MAccept, From: 1, To: 2, Epoch: 5, B: at(3, 1), Inc: down(3)},
		{Kind: api.MAccepted, From: 1, To: 2, Epoch: 5, B: at(3, 2)},
		{Kind: api.MLearn, From: 1, To: 12, Epoch: 5, Inc: down(3)},
		{Kind: api.MAsk, From: 12, To: 1, Epoch: 5},
		{Kind: api.MQuery, From: 12, To: 11, Epoch: 5, Group: 3},
		{Kind: api.MInfo, From: 12, To: 11, Epoch: 5, Group: 3, State: s},
		{Kind: api.MPush, From: 12, To: 11, Epoch: 5, Group: 3, Diff: api.Diff{Kind: 1, From: 9, Log: s.Log, Whole: ends(s)}},
		{Kind: api.MHave, From: 12, To: 11, Epoch: 5, Group: 3, N: 44},
		{Kind: api.MRep, From: 12, To: 11, Epoch: 5, Group: 3, Entry: s.Log[1]},
		{Kind: api.MRepAck, From: 12, To: 11, Epoch: 5, Group: 3, N: 44},
		{Kind: api.MCheck, From: 12, To: 11, Epoch: 5, Group: 3, Op: read(2, 6)},
		{Kind: api.MCheckAck, From: 12, To: 11, Epoch: 5, Group: 3, Op: read(2, 6)},
		{Kind: api.MOp, From: 22, To: 11, Op: write(2, 6, "ab")},
		{Kind: api.MReply, From: 12, To: 22, Op: write(2, 6, "ab"), R: api.Result{Code: api.RLong, Data: "cd"}},
		{Kind: api.MReport, From: 12, To: 1, N: 3},
		{Kind: api.MNack, From: 1, To: 2, Epoch: 5, B: at(3, 0)},
	}
}

// ordinaryOf: that of a kind.
func ordinaryOf(kind uint8) api.Msg { return twin(ordinary()[kind-1]) }

// twin: the same message with lists of its own.
func twin(m api.Msg) api.Msg {
	m.State.Log, m.Diff.Log, m.Diff.Whole.Log = slices.Clone(m.State.Log), slices.Clone(m.Diff.Log), slices.Clone(m.Diff.Whole.Log)
	return m
}

// with: a twin of m that bend was let loose on.
func with(m api.Msg, bend func(m *api.Msg)) api.Msg {
	m = twin(m)
	bend(&m)
	return m
}
