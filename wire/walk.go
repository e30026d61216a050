package wire

import (
	"paddock/api"
)

// coder is handed each number and text of a message, and answers which one stands there now. So one walk serves who puts, who gets and who only looks: they can't take the parts in unlike orders.
type coder interface {
	number(n uint64, bytes int) uint64
	text(s string, most int) string
}

// walk goes through a message in the order of its bytes. It makes what it answers of what its coder answers, so that nothing is there that it doesn't go through.
type walk struct{ coder }

func (w walk) message(m api.Msg) api.Msg {
	made := api.Msg{Kind: w.one(m.Kind), From: w.one(m.From), To: w.one(m.To), Epoch: w.four(m.Epoch)}
	s := shapeOf(made.Kind)
	if s.ballot != nobodys {
		made.B = w.ballot(m.B)
	}
	if s.promise {
		made.Acc = w.ballot(m.Acc)
		made.Has = w.flag(m.Has)
	}
	if s.inc {
		made.Inc = w.inc(m.Inc)
	}
	if s.group {
		made.Group = w.one(m.Group)
	}
	if s.state {
		made.State = w.state(m.State)
	}
	if s.diff {
		made.Diff = w.diff(m.Diff)
	}
	if s.entry {
		made.Entry = w.entry(m.Entry)
	}
	if s.mostN > 0 {
		made.N = w.four(m.N)
	}
	if s.op != nobodys {
		made.Op = w.op(m.Op)
	}
	if s.result {
		made.R = w.result(m.R)
	}
	return made
}

func (w walk) one(n uint8) uint8 { return uint8(w.number(uint64(n), 1)) }

func (w walk) four(n uint32) uint32 { return uint32(w.number(uint64(n), 4)) }

// small is for what is counted by an int, and fits into a byte.
func (w walk) small(n int) int { return int(w.number(uint64(n), 1)) }

func (w walk) data(s string) string { return w.text(s, api.MaxData) }

// flag takes 0 and 1 alone: another byte would be a second way to tell the same.
func (w walk) flag(is bool) bool {
	n := uint8(0)
	if is {
		n = 1
	}
	switch w.one(n) {
	case 0:
		return false
	case 1:
		return true
	}
	panic(api.ErrForm)
}

func (w walk) ballot(b api.Ballot) api.Ballot {
	return api.Ballot{N: w.four(b.N), Who: w.one(b.Who)}
}

func (w walk) inc(x api.Inc) api.Inc {
	return api.Inc{Kind: w.one(x.Kind), Osd: w.one(x.Osd), N: w.small(x.N)}
}

func (w walk) op(o api.Op) api.Op {
	return api.Op{Client: w.one(o.Client), Seq: w.four(o.Seq), Kind: w.one(o.Kind), Obj: w.one(o.Obj), At: w.one(o.At), Data: w.data(o.Data)}
}

func (w walk) result(r api.Result) api.Result {
	return api.Result{Code: w.one(r.Code), Data: w.text(r.Data, mostReply)}
}

func (w walk) entry(e api.Entry) api.Entry {
	return api.Entry{Since: w.four(e.Since), N: w.four(e.N), Op: w.op(e.Op)}
}

// entries makes room for no more of them than a log may have, whatever number stands ahead of them.
func (w walk) entries(l []api.Entry) []api.Entry {
	n := w.small(len(l))
	if n > api.MaxLog {
		panic(api.ErrLong)
	}
	made := make([]api.Entry, n)
	copy(made, l)
	for i, e := range made {
		made[i] = w.entry(e)
	}
	return made
}

func (w walk) diff(d api.Diff) api.Diff {
	return api.Diff{Kind: w.small(d.Kind), From: w.four(d.From), Log: w.entries(d.Log), Whole: w.state(d.Whole)}
}

func (w walk) state(s api.State) api.State {
	return api.State{Started: w.four(s.Started), Tail: w.tail(s.Tail), Base: w.base(s.Base), Log: w.entries(s.Log)}
}

// tail is an entry of which the operation isn't known any more.
func (w walk) tail(e api.Entry) api.Entry {
	return api.Entry{Since: w.four(e.Since), N: w.four(e.N)}
}

func (w walk) base(b api.Base) api.Base {
	for i, x := range b.Objs {
		b.Objs[i] = w.object(x)
	}
	for i, l := range b.Last {
		b.Last[i] = w.last(l)
	}
	return b
}

func (w walk) object(x api.Object) api.Object {
	made := api.Object{There: w.flag(x.There), Data: w.data(x.Data)}
	for key, value := range x.Attr {
		made.Attr[key] = w.data(value)
	}
	return made
}

// last is without the text of its result: a result that is kept has none.
func (w walk) last(l api.Last) api.Last {
	return api.Last{Seq: w.four(l.Seq), R: api.Result{Code: w.one(l.R.Code)}}
}
