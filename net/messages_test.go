package net_test

import (
	"math"
	"slices"
	"strings"

	"paddock/api"
)

const kinds = api.MNack

func full() string { return strings.Repeat("f", api.MaxData) }

// ask: a small message; those of unlike numbers are unlike, up to a bag of them.
func ask(n int) api.Msg {
	nodes := []uint8{0, 1, 2, 10, 11, 12, 13, 14}
	from, epoch := n/api.MaxEpoch%len(nodes), n%api.MaxEpoch
	to := uint8(0)
	if from == 0 {
		to = 1
	}
	return api.Msg{Kind: api.MAsk, From: nodes[from], To: to, Epoch: uint32(epoch) + 1}
}

// asks: so many of them, the first one of that number.
func asks(first, length int) []api.Msg {
	l := make([]api.Msg, length)
	for i := range l {
		l[i] = ask(first + i)
	}
	return l
}

// entries: so many behind number n.
func entries(n uint32, length int) []api.Entry {
	l := make([]api.Entry, length)
	for i := range l {
		l[i] = api.Entry{Since: api.MaxEpoch, N: n + 1 + uint32(i), Op: api.Op{Client: 3, Seq: math.MaxUint32, Kind: api.OWrite, Obj: 5, At: 255, Data: full()}}
	}
	return l
}

// longest: the state that takes the most bytes.
func longest() api.State {
	s := api.State{Started: api.MaxEpoch, Tail: api.Entry{Since: api.MaxEpoch, N: math.MaxUint32 - api.MaxLog}, Log: entries(math.MaxUint32-api.MaxLog, api.MaxLog)}
	for obj := range s.Base.Objs {
		s.Base.Objs[obj] = api.Object{There: true, Data: full(), Attr: [api.Attrs]string{full(), full(), full()}}
	}
	for c := range s.Base.Last {
		s.Base.Last[c] = api.Last{Seq: math.MaxUint32, R: api.Result{Code: api.RBad}}
	}
	return s
}

// least: of each kind the message with the least number in all that it has, and the least of all else; in the order of kinds.
func least() []api.Msg {
	first := api.Ballot{N: 1}
	up := api.Inc{Kind: api.IUp}
	write := api.Op{Client: 1, Seq: 1, Kind: api.OWrite}
	read := api.Op{Client: 1, Seq: 1, Kind: api.ORead}
	return []api.Msg{
		{Kind: api.MPrepare, From: 0, To: 1, Epoch: 2, B: first},
		{Kind: api.MPromise, From: 1, To: 0, Epoch: 2, B: first},
		{Kind: api.MAccept, From: 0, To: 1, Epoch: 2, B: first, Inc: up},
		{Kind: api.MAccepted, From: 1, To: 0, Epoch: 2, B: first},
		{Kind: api.MLearn, From: 0, To: 1, Epoch: 2, Inc: up},
		{Kind: api.MAsk, From: 0, To: 1, Epoch: 1},
		{Kind: api.MQuery, From: 10, To: 11, Epoch: 1},
		{Kind: api.MInfo, From: 10, To: 11, Epoch: 1},
		{Kind: api.MPush, From: 10, To: 11, Epoch: 1},
		{Kind: api.MHave, From: 10, To: 11, Epoch: 1},
		{Kind: api.MRep, From: 10, To: 11, Epoch: 1, Entry: api.Entry{Since: 1, N: 1, Op: write}},
		{Kind: api.MRepAck, From: 10, To: 11, Epoch: 1},
		{Kind: api.MCheck, From: 10, To: 11, Epoch: 1, Op: read},
		{Kind: api.MCheckAck, From: 10, To: 11, Epoch: 1, Op: read},
		{Kind: api.MOp, From: 21, To: 10, Op: write},
		{Kind: api.MReply, From: 10, To: 21, Op: write},
		{Kind: api.MReport, From: 10, To: 0},
		{Kind: api.MNack, From: 0, To: 1, Epoch: 2, B: first},
	}
}

// greatest: likewise the one with the greatest numbers, and the longest of all else.
func greatest() []api.Msg {
	last := api.Ballot{N: math.MaxUint32, Who: 2}
	heavy := api.Inc{Kind: api.IWeight, Osd: 4, N: api.MaxWeight}
	attr := api.Op{Client: 3, Seq: math.MaxUint32, Kind: api.OAttr, Obj: 5, At: 255, Data: full()}
	read := api.Op{Client: 3, Seq: math.MaxUint32, Kind: api.ORead, Obj: 5}
	told := api.Result{Code: api.RBad, Data: strings.Repeat("\xff", 80)}
	const end, n = api.MaxEpoch, math.MaxUint32
	return []api.Msg{
		{Kind: api.MPrepare, From: 2, To: 1, Epoch: end, B: last},
		{Kind: api.MPromise, From: 1, To: 2, Epoch: end, B: last, Acc: last, Has: true, Inc: heavy},
		{Kind: api.MAccept, From: 2, To: 1, Epoch: end, B: last, Inc: heavy},
		{Kind: api.MAccepted, From: 1, To: 2, Epoch: end, B: last},
		{Kind: api.MLearn, From: 2, To: 14, Epoch: end, Inc: heavy},
		{Kind: api.MAsk, From: 14, To: 2, Epoch: end},
		{Kind: api.MQuery, From: 14, To: 13, Epoch: end, Group: 3},
		{Kind: api.MInfo, From: 14, To: 13, Epoch: end, Group: 3, State: longest()},
		{Kind: api.MPush, From: 14, To: 13, Epoch: end, Group: 3, Diff: api.Diff{Kind: 2, Whole: longest()}},
		{Kind: api.MHave, From: 14, To: 13, Epoch: end, Group: 3, N: n},
		{Kind: api.MRep, From: 14, To: 13, Epoch: end, Group: 3, Entry: api.Entry{Since: end, N: n, Op: attr}},
		{Kind: api.MRepAck, From: 14, To: 13, Epoch: end, Group: 3, N: n},
		{Kind: api.MCheck, From: 14, To: 13, Epoch: end, Group: 3, Op: read},
		{Kind: api.MCheckAck, From: 14, To: 13, Epoch: end, Group: 3, Op: read},
		{Kind: api.MOp, From: 23, To: 14, Op: attr},
		{Kind: api.MReply, From: 14, To: 23, Op: attr, R: told},
		{Kind: api.MReport, From: 14, To: 2, N: api.Osds - 1},
		{Kind: api.MNack, From: 2, To: 1, Epoch: end, B: last},
	}
}

// pushes: of each kind of difference, those of entries with logs of each length.
func pushes() []api.Msg {
	s := longest()
	ends := api.State{Started: s.Started, Tail: s.Tail}
	diffs := []api.Diff{{Whole: ends}, {Kind: 2, Whole: api.State{Log: entries(0, 3)}}}
	for length := range api.MaxLog + 1 {
		diffs = append(diffs, api.Diff{Kind: 1, From: 9, Log: entries(9, length), Whole: ends})
	}
	var l []api.Msg
	for _, d := range diffs {
		l = append(l, api.Msg{Kind: api.MPush, From: 12, To: 10, Epoch: 7, Group: 1, Diff: d})
	}
	return l
}

// messages: all of these.
func messages() []api.Msg { return slices.Concat(least(), greatest(), pushes()) }

// twin: the same message with lists of its own.
func twin(m api.Msg) api.Msg {
	m.State.Log, m.Diff.Log, m.Diff.Whole.Log = slices.Clone(m.State.Log), slices.Clone(m.Diff.Log), slices.Clone(m.Diff.Whole.Log)
	return m
}

// bends: each makes most messages another one, or none.
func bends() []func(m *api.Msg) {
	return []func(m *api.Msg){
		func(m *api.Msg) { *m = api.Msg{} },
		func(m *api.Msg) { m.Kind = 0 },
		func(m *api.Msg) { m.Kind = kinds + 1 },
		func(m *api.Msg) { m.Kind = 255 },
		func(m *api.Msg) { m.From = m.To },
		func(m *api.Msg) { m.From, m.To = m.To, m.From },
		func(m *api.Msg) { m.From = 3 },
		func(m *api.Msg) { m.To = 15 },
		func(m *api.Msg) { m.To = 255 },
		func(m *api.Msg) { m.Epoch = 0 },
		func(m *api.Msg) { m.Epoch = 1 },
		func(m *api.Msg) { m.Epoch = api.MaxEpoch + 1 },
		func(m *api.Msg) { m.B = api.Ballot{} },
		func(m *api.Msg) { m.B.Who = 3 },
		func(m *api.Msg) { m.Acc.N++ },
		func(m *api.Msg) { m.Has = !m.Has },
		func(m *api.Msg) { m.Inc.Kind = 9 },
		func(m *api.Msg) { m.Inc.N = 256 + api.MaxWeight },
		func(m *api.Msg) { m.Group = api.Groups },
		func(m *api.Msg) { m.State.Started = api.MaxEpoch + 1 },
		func(m *api.Msg) { m.State.Log = entries(m.State.Tail.N, api.MaxLog+1) },
		func(m *api.Msg) { m.Diff.Kind = 3 },
		func(m *api.Msg) { m.Diff.From++ },
		func(m *api.Msg) { m.Diff.Log = entries(9, api.MaxLog+1) },
		func(m *api.Msg) { m.Diff.Whole.Base.Objs[0].Data = full() + "g" },
		func(m *api.Msg) { m.Entry.N = 0 },
		func(m *api.Msg) { m.Entry.Op.Client = 4 },
		func(m *api.Msg) { m.N++ },
		func(m *api.Msg) { m.Op.Seq = 0 },
		func(m *api.Msg) { m.Op.Data = full() + "g" },
		func(m *api.Msg) { m.Op.Client++ },
		func(m *api.Msg) { m.R.Code = api.RBad + 1 },
		func(m *api.Msg) { m.R.Data = strings.Repeat("r", 81) },
		func(m *api.Msg) { m.R.Data = strings.Repeat("r", 70000) },
	}
}

// bent: twins of all messages that each bend was let loose on.
func bent() []api.Msg {
	var l []api.Msg
	for _, m := range messages() {
		for _, bend := range bends() {
			x := twin(m)
			bend(&x)
			l = append(l, x)
		}
	}
	return l
}
