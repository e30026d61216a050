package objects

import (
	"strconv"
	"strings"

	"paddock/api"
)

// object has what each kind of operation does with one.
type object api.Object

// change is what a kind does: the object behind it, and the code. With another code than RDone the object is as it was.
type change func(x object, o api.Op) (object, uint8)

// changeOf is of kinds that write alone.
func changeOf(kind uint8) change {
	changes := [...]change{
		api.OWrite:  object.write,
		api.OTrunc:  object.trunc,
		api.OAttr:   object.attr,
		api.ODelete: object.remove,
	}
	return changes[kind]
}

func (x object) write(o api.Op) (object, uint8) {
	end := int(o.At) + len(o.Data)
	if end > api.MaxData {
		return x, api.RLong
	}
	behind := x.Data[min(end, len(x.Data)):]
	x.There = true
	x.Data = sized(x.Data, int(o.At)) + o.Data + behind
	return x, api.RDone
}

func (x object) trunc(o api.Op) (object, uint8) {
	if !x.There {
		return x, api.RNone
	}
	if o.At > api.MaxData {
		return x, api.RLong
	}
	x.Data = sized(x.Data, int(o.At))
	return x, api.RDone
}

func (x object) attr(o api.Op) (object, uint8) {
	if o.At >= api.Attrs {
		return x, api.RBad
	}
	if !x.There {
		return x, api.RNone
	}
	x.Attr[o.At] = o.Data
	return x, api.RDone
}

func (x object) remove(api.Op) (object, uint8) {
	if !x.There {
		return x, api.RNone
	}
	return object{}, api.RDone
}

// text is what a read tells. An attribute that is "" is none: it was never set, or was set so to be rid of it.
func (x object) text() string {
	s := x.Data
	for key, value := range x.Attr {
		if value != "" {
			s += ";" + strconv.Itoa(key) + "=" + value
		}
	}
	return s
}

// sized is data cut to n bytes, or with noughts behind it up to so many.
func sized(data string, n int) string {
	if n <= len(data) {
		return data[:n]
	}
	return data + strings.Repeat("\x00", n-len(data))
}
