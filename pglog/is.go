package pglog

import (
	"paddock/api"
	"paddock/objects"
)

func isTail(tail api.Entry) bool {
	return tail.Since <= api.MaxEpoch && tail == position(tail)
}

// isLog takes the number of entries first, so that a list of any length is told at once.
func isLog(tail api.Entry, log []api.Entry) bool {
	if len(log) > api.MaxLog {
		return false
	}
	for i, e := range log {
		if !follows(last(tail, log[:i]), e) {
			return false
		}
	}
	return true
}

// follows tells whether e can come next behind the entry ahead. The number 0 is behind none: the greatest one has no next.
func follows(ahead, e api.Entry) bool {
	return objects.Writes(e.Op) && e.N != 0 && e.N-1 == ahead.N && e.Since >= ahead.Since && e.Since <= api.MaxEpoch
}

func isBase(b api.Base) bool {
	for _, x := range b.Objs {
		if !isObject(x) {
			return false
		}
	}
	for _, l := range b.Last {
		if !isLast(l) {
			return false
		}
	}
	return true
}

func isObject(x api.Object) bool {
	if !x.There {
		return x == api.Object{}
	}
	for _, value := range x.Attr {
		if len(value) > api.MaxData {
			return false
		}
	}
	return len(x.Data) <= api.MaxData
}

func isLast(l api.Last) bool {
	if l.Seq == 0 {
		return l == api.Last{}
	}
	return l.R.Code <= api.RBad && l.R == api.Result{Code: l.R.Code}
}
