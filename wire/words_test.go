package wire_test

import (
	"bytes"
	"encoding/binary"
	"fmt"
	"hash/fnv"
	"math/rand/v2"
	"reflect"
	"slices"
	"strings"

	"paddock/api"
	"paddock/maps"
	"paddock/objects"
	"paddock/pglog"
)

// What the chapter's words come to, by another way than the package's own.

// letter: of a monitor, a daemon or a client; "?" of none of these.
func letter(node uint8) string {
	switch node {
	case 0, 1, 2:
		return "M"
	case 10, 11, 12, 13, 14:
		return "D"
	case 21, 22, 23:
		return "C"
	}
	return "?"
}

// word: a row of the chapter's table.
type word struct {
	ends  string // pairs of letters
	epoch uint32 // the least one; 0: none
	has   string // fields of Msg beside Kind, From, To and Epoch
}

var words = map[uint8]word{
	api.MPrepare: {"MM", 2, "B"}, api.MPromise: {"MM", 2, "B Acc Has Inc"}, api.MAccept: {"MM", 2, "B Inc"}, api.MAccepted: {"MM", 2, "B"}, api.MLearn: {"MM MD", 2, "Inc"}, api.MAsk: {"DM MM", 1, ""},
	api.MQuery: {"DD", 1, "Group"}, api.MInfo: {"DD", 1, "Group State"}, api.MPush: {"DD", 1, "Group Diff"}, api.MHave: {"DD", 1, "Group N"}, api.MRep: {"DD", 1, "Group Entry"}, api.MRepAck: {"DD", 1, "Group N"},
	api.MCheck: {"DD", 1, "Group Op"}, api.MCheckAck: {"DD", 1, "Group Op"}, api.MOp: {"CD", 0, "Op"}, api.MReply: {"DC", 0, "Op R"}, api.MReport: {"DM", 0, "N"}, api.MNack: {"MM", 2, "B"},
}

// has: whether a kind has a field of Msg.
func has(kind uint8, field string) bool {
	return slices.Contains(strings.Fields(words[kind].has), field)
}

// isMessage: P12.1, field by field.
func isMessage(m api.Msg) bool {
	w, known := words[m.Kind]
	if !known || m.From == m.To || !slices.Contains(strings.Fields(w.ends), letter(m.From)+letter(m.To)) {
		return false
	}
	if w.epoch == 0 && m.Epoch != 0 || w.epoch > 0 && (m.Epoch < w.epoch || m.Epoch > 60) {
		return false
	}
	v := reflect.ValueOf(plain(m))
	for i := range v.NumField() {
		field := v.Type().Field(i).Name
		if !slices.Contains([]string{"Kind", "From", "To", "Epoch"}, field) && !has(m.Kind, field) && !v.Field(i).IsZero() {
			return false
		}
	}
	return rightParts(m)
}

// plain: m with nil for each empty list.
func plain(m api.Msg) api.Msg {
	for _, l := range []*[]api.Entry{&m.State.Log, &m.Diff.Log, &m.Diff.Whole.Log} {
		if len(*l) == 0 {
			*l = nil
		}
	}
	return m
}

func rightParts(m api.Msg) bool {
	isBallot := func(b api.Ballot) bool { return b.N != 0 && b.Who <= 2 }
	switch m.Kind {
	case api.MPrepare:
		return isBallot(m.B) && m.B.Who == m.From
	case api.MPromise:
		said := m.Acc == api.Ballot{} && m.Inc == api.Inc{}
		if m.Has {
			said = isBallot(m.Acc) && maps.IsInc(m.Inc)
		}
		return isBallot(m.B) && m.B.Who == m.To && said
	case api.MAccept:
		return isBallot(m.B) && m.B.Who == m.From && maps.IsInc(m.Inc)
	case api.MAccepted:
		return isBallot(m.B) && m.B.Who == m.To
	case api.MLearn:
		return maps.IsInc(m.Inc)
	case api.MNack:
		return isBallot(m.B)
	case api.MQuery, api.MHave, api.MRepAck:
		return m.Group <= 3
	case api.MInfo:
		return m.Group <= 3 && pglog.Is(m.State)
	case api.MPush:
		return m.Group <= 3 && isDifference(m.Diff)
	case api.MRep:
		return m.Group <= 3 && objects.Writes(m.Entry.Op) && m.Entry.N != 0 && m.Entry.Since >= 1 && m.Entry.Since <= 60
	case api.MCheck, api.MCheckAck:
		return m.Group <= 3 && objects.IsOp(m.Op) && m.Op.Kind == api.ORead
	case api.MOp:
		return objects.IsOp(m.Op) && 20+int(m.Op.Client) == int(m.From)
	case api.MReply:
		return objects.IsOp(m.Op) && 20+int(m.Op.Client) == int(m.To) && m.R.Code <= 3 && len(m.R.Data) <= 80
	case api.MReport:
		return m.N <= 4
	}
	return true
}

func isDifference(d api.Diff) bool {
	if d.Kind != 1 && (d.From != 0 || len(d.Log) != 0) || len(d.Log) > 6 {
		return false
	}
	for i, e := range d.Log {
		if !objects.Writes(e.Op) || e.N == 0 || e.Since > 60 || i > 0 && (e.N != d.Log[i-1].N+1 || e.Since < d.Log[i-1].Since) {
			return false
		}
	}
	switch d.Kind {
	case 2:
		return pglog.Is(d.Whole)
	case 0, 1:
		return d.Whole.Base == api.Base{} && len(d.Whole.Log) == 0 && d.Whole.Started <= 60 && d.Whole.Tail.Since <= 60 && d.Whole.Tail.Op == api.Op{}
	}
	return false
}

// sheet: bytes, put down one thing behind the other.
type sheet struct{ bytes.Buffer }

func (s *sheet) one(l ...uint8) { s.Write(l) }

func (s *sheet) four(l ...uint32) { binary.Write(s, binary.BigEndian, l) }

func (s *sheet) texts(l ...string) {
	for _, x := range l {
		binary.Write(s, binary.BigEndian, uint16(len(x)))
		s.WriteString(x)
	}
}

func (s *sheet) flag(is bool) {
	if is {
		s.one(1)
	} else {
		s.one(0)
	}
}

func (s *sheet) op(o api.Op) {
	s.one(o.Client)
	s.four(o.Seq)
	s.one(o.Kind, o.Obj, o.At)
	s.texts(o.Data)
}

func (s *sheet) entries(l []api.Entry) {
	s.one(uint8(len(l)))
	for _, e := range l {
		s.four(e.Since, e.N)
		s.op(e.Op)
	}
}

func (s *sheet) state(x api.State) {
	s.four(x.Started, x.Tail.Since, x.Tail.N)
	for _, o := range x.Base.Objs {
		s.flag(o.There)
		s.texts(o.Data, o.Attr[0], o.Attr[1], o.Attr[2])
	}
	for _, l := range x.Base.Last {
		s.four(l.Seq)
		s.one(l.R.Code)
	}
	s.entries(x.Log)
}

// part puts down one field of a message.
func (s *sheet) part(m api.Msg, field string) {
	switch field {
	case "B":
		s.four(m.B.N)
		s.one(m.B.Who)
	case "Acc":
		s.four(m.Acc.N)
		s.one(m.Acc.Who)
	case "Has":
		s.flag(m.Has)
	case "Inc":
		s.one(m.Inc.Kind, m.Inc.Osd, uint8(m.Inc.N))
	case "Group":
		s.one(m.Group)
	case "State":
		s.state(m.State)
	case "Diff":
		s.one(uint8(m.Diff.Kind))
		s.four(m.Diff.From)
		s.entries(m.Diff.Log)
		s.state(m.Diff.Whole)
	case "Entry":
		s.four(m.Entry.Since, m.Entry.N)
		s.op(m.Entry.Op)
	case "N":
		s.four(m.N)
	case "Op":
		s.op(m.Op)
	case "R":
		s.one(m.R.Code)
		s.texts(m.R.Data)
	}
}

// bytesOf: P12.2, of what is a message.
func bytesOf(m api.Msg) []byte {
	var s sheet
	s.one(m.Kind, m.From, m.To)
	s.four(m.Epoch)
	fields := strings.Fields(words[m.Kind].has)
	for _, f := range reflect.VisibleFields(reflect.TypeFor[api.Msg]()) {
		if slices.Contains(fields, f.Name) {
			s.part(m, f.Name)
		}
	}
	return summed(s.Bytes())
}

func stateBytes(x api.State) []byte {
	var s sheet
	s.state(x)
	return s.Bytes()
}

// summed: b with its sum behind it.
func summed(b []byte) []byte {
	h := fnv.New64a()
	h.Write(b)
	return h.Sum(slices.Clone(b))
}

// leaf: something in a message that can be set by itself.
type leaf struct {
	path string
	v    reflect.Value
}

// leaves: all of m, those of its lists' entries and the lists themselves too.
func leaves(m *api.Msg) []leaf {
	var l []leaf
	var into func(path string, v reflect.Value)
	into = func(path string, v reflect.Value) {
		switch v.Kind() {
		case reflect.Struct:
			for i := range v.NumField() {
				into(path+"."+v.Type().Field(i).Name, v.Field(i))
			}
			return
		case reflect.Array, reflect.Slice:
			for i := range v.Len() {
				into(fmt.Sprint(path, "[", i, "]"), v.Index(i))
			}
		}
		if v.Kind() != reflect.Array {
			l = append(l, leaf{path[1:], v})
		}
	}
	into("", reflect.ValueOf(m).Elem())
	return l
}

// field: the one of Msg that it is in.
func (x leaf) field() string {
	name, _, _ := strings.Cut(x.path, ".")
	return name
}

// nudge makes it another one, by the least there is; what it answers makes it the old one again.
func (x leaf) nudge() func() {
	old := reflect.New(x.v.Type()).Elem()
	old.Set(x.v)
	switch x.v.Kind() {
	case reflect.Bool:
		x.v.SetBool(!x.v.Bool())
	case reflect.String:
		x.v.SetString(x.v.String() + "x")
	case reflect.Int:
		x.v.SetInt(x.v.Int() + 1)
	case reflect.Slice:
		x.v.Set(reflect.Append(x.v, reflect.Zero(x.v.Type().Elem())))
	default:
		x.v.SetUint(x.v.Uint() + 1)
	}
	return func() { x.v.Set(old) }
}

// throw makes it one at an edge, or any.
func (x leaf) throw(r *rand.Rand) {
	numbers := []uint64{0, 0, 1, 1, 2, 2, 3, 4, 5, 6, 10, 14, 21, 23, 60, 61, 255, 256, 257, 1<<32 - 1, x.v0() + 1, x.v0() - 1, r.Uint64()}
	n := numbers[r.IntN(len(numbers))]
	switch x.v.Kind() {
	case reflect.Bool:
		x.v.SetBool(n%2 == 1)
	case reflect.String:
		x.v.SetString(strings.Repeat("t", []int{0, 1, 15, 16, 17, 80, 81, 300}[r.IntN(8)]))
	case reflect.Int:
		x.v.SetInt(int64(n))
	case reflect.Slice:
		x.v.Set(x.v.Slice(0, r.IntN(x.v.Len()+1)))
	default:
		x.v.SetUint(n & (1<<(8*x.v.Type().Size()) - 1))
	}
}

// v0: the number that it is; 0 of what is none.
func (x leaf) v0() uint64 {
	switch {
	case x.v.CanUint():
		return x.v.Uint()
	case x.v.CanInt():
		return uint64(x.v.Int())
	}
	return 0
}
