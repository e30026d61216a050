package wire

import (
	"math"

	"paddock/api"
	"paddock/maps"
	"paddock/objects"
	"paddock/pglog"
)

const (
	firstEpoch = 1
	firstSlot  = 2 // the first map is there without being agreed on

	firstDaemon = 10
	noClient    = 20 // client c is node noClient + c

	mostReply = 80 // bytes: what a read of an object tells fits
)

// sides: lots of nodes.
type sides uint8

const (
	monitors sides = 1 << iota
	daemons
	clients
)

// sideOf is the lot that a number is of; none, if it is no node's.
func sideOf(node uint8) sides {
	switch {
	case node < api.Mons:
		return monitors
	case node >= firstDaemon && node < firstDaemon+api.Osds:
		return daemons
	case node > noClient && node <= noClient+api.Clients:
		return clients
	}
	return 0
}

// whose: which node a part of a message is to be of.
type whose uint8

const (
	nobodys whose = iota // there is no such part
	senders
	receivers
	anyones
)

func (w whose) owns(node uint8, m api.Msg) bool {
	switch w {
	case senders:
		return node == m.From
	case receivers:
		return node == m.To
	}
	return w == anyones
}

// shape: what a kind of messages has. Of a zero one there is no message: nobody sends it.
type shape struct {
	from, to sides
	least    uint32 // epoch; 0: it has none
	ballot   whose  // B is
	promise  bool   // Acc and Has are there, and Inc hangs on Has
	inc      bool
	group    bool
	state    bool
	diff     bool
	entry    bool
	mostN    uint32 // 0: it has no N
	op       whose  // Op is; anyone's is a read
	result   bool
}

func shapeOf(kind uint8) shape {
	switch kind {
	case api.MPrepare:
		return shape{from: monitors, to: monitors, least: firstSlot, ballot: senders}
	case api.MPromise:
		return shape{from: monitors, to: monitors, least: firstSlot, ballot: receivers, promise: true, inc: true}
	case api.MAccept:
		return shape{from: monitors, to: monitors, least: firstSlot, ballot: senders, inc: true}
	case api.MAccepted:
		return shape{from: monitors, to: monitors, least: firstSlot, ballot: receivers}
	case api.MLearn:
		return shape{from: monitors, to: monitors | daemons, least: firstSlot, inc: true}
	case api.MAsk:
		return shape{from: monitors | daemons, to: monitors, least: firstEpoch}
	case api.MQuery:
		return shape{from: daemons, to: daemons, least: firstEpoch, group: true}
	case api.MInfo:
		return shape{from: daemons, to: daemons, least: firstEpoch, group: true, state: true}
	case api.MPush:
		return shape{from: daemons, to: daemons, least: firstEpoch, group: true, diff: true}
	case api.MHave, api.MRepAck:
		return shape{from: daemons, to: daemons, least: firstEpoch, group: true, mostN: math.MaxUint32}
	case api.MRep:
		return shape{from: daemons, to: daemons, least: firstEpoch, group: true, entry: true}
	case api.MCheck, api.MCheckAck:
		return shape{from: daemons, to: daemons, least: firstEpoch, group: true, op: anyones}
	case api.MOp:
		return shape{from: clients, to: daemons, op: senders}
	case api.MReply:
		return shape{from: daemons, to: clients, op: receivers, result: true}
	case api.MReport:
		return shape{from: daemons, to: monitors, mostN: api.Osds - 1}
	case api.MNack:
		return shape{from: monitors, to: monitors, least: firstSlot, ballot: anyones}
	}
	return shape{}
}

// goes tells whether such a message goes from there to there.
func (s shape) goes(m api.Msg) bool {
	return s.from&sideOf(m.From) != 0 && s.to&sideOf(m.To) != 0 && m.From != m.To
}

// fits tells whether all that the shape has is in its form. What it hasn't is to be zero, and isn't refused here.
func (s shape) fits(m api.Msg) bool {
	return s.fitsEpoch(m.Epoch) && s.fitsBallot(m) && s.fitsValue(m) && m.Group < api.Groups &&
		(!s.state || pglog.Is(m.State)) && (!s.diff || isDiff(m.Diff)) && (!s.entry || isEntry(m.Entry)) &&
		m.N <= s.mostN && s.fitsOp(m) && m.R.Code <= api.RBad && len(m.R.Data) <= mostReply
}

func (s shape) fitsEpoch(epoch uint32) bool {
	if s.least == 0 {
		return epoch == 0
	}
	return epoch >= s.least && epoch <= api.MaxEpoch
}

func (s shape) fitsBallot(m api.Msg) bool {
	return s.ballot == nobodys || isBallot(m.B) && s.ballot.owns(m.B.Who, m)
}

// fitsValue: whoever promises tells what it accepted, if it did.
func (s shape) fitsValue(m api.Msg) bool {
	switch {
	case !s.inc:
		return true
	case !s.promise:
		return maps.IsInc(m.Inc)
	case m.Has:
		return isBallot(m.Acc) && maps.IsInc(m.Inc)
	}
	return m.Acc == api.Ballot{} && m.Inc == api.Inc{}
}

func (s shape) fitsOp(m api.Msg) bool {
	switch s.op {
	case nobodys:
		return true
	case anyones:
		return objects.IsOp(m.Op) && m.Op.Kind == api.ORead
	}
	return objects.IsOp(m.Op) && s.op.owns(noClient+m.Op.Client, m)
}
