package wire

import (
	"errors"

	"paddock/api"
	"paddock/bits"
	"paddock/pglog"
)

// must panics with e, which caught makes an error of.
func must(holds bool, e api.Errno) {
	if !holds {
		panic(e)
	}
}

// caught answers the error that read panicked with: the number that it is, or wraps. Whatever else may be thrown there came of bytes that no message has.
func caught(read func()) (e api.Errno) {
	e = api.ErrForm
	defer func() {
		if told, is := recover().(error); is {
			errors.As(told, &e)
		}
	}()
	read()
	return api.OK
}

// readMessage panics, if b is no message's.
func readMessage(b []byte) api.Msg {
	g := getter{left: opened(b)}
	m := walk{&g}.message(api.Msg{})
	must(len(g.left) == 0 && Is(m), api.ErrForm)
	return m
}

// opened is what lies ahead of the sum, which is to be the sum of it.
func opened(b []byte) []byte {
	must(len(b) <= api.MaxBytes, api.ErrLong)
	must(len(b) >= sumBytes, api.ErrShort)
	end := len(b) - sumBytes
	g := getter{left: b[end:]}
	must(g.number(0, sumBytes) == bits.Sum(b[:end]), api.ErrSum)
	return b[:end]
}

// readState panics, if what is left begins with none.
func readState(g *getter) api.State {
	s := walk{g}.state(api.State{})
	must(pglog.Is(s), api.ErrForm)
	return s
}
