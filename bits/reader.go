package bits

import (
	"paddock/api"
)

// reader goes through bytes. Its methods panic with an api.Errno where the bytes don't hold what is asked for, so that what reads several things needs no check between them; caught makes an error of it.
type reader struct {
	left []byte
}

// take answers the next bytes: a piece of what is read, not a copy.
func (r *reader) take(bytes int) []byte {
	if bytes > len(r.left) {
		panic(api.ErrShort)
	}
	taken := r.left[:bytes]
	r.left = r.left[bytes:]
	return taken
}

func (r *reader) number(bytes int) uint64 {
	n := uint64(0)
	for _, c := range r.take(bytes) {
		n = n<<8 | uint64(c)
	}
	return n
}

func (r *reader) text(most int) string {
	length := int(r.number(lengthBytes))
	// Ahead of the bytes themselves: too long is told even where they end too early.
	if length > most {
		panic(api.ErrLong)
	}
	return string(r.take(length))
}

// caught answers the error that read panicked with. Any other panic would be a fault of this package: it isn't hidden as an error.
func caught(read func()) (e api.Errno) {
	defer func() {
		if told := recover(); told != nil {
			e = told.(api.Errno)
		}
	}()
	read()
	return api.OK
}
