package wire

import (
	"testing"

	"paddock/api"
)

// wrapped: an error that has another one in it.
type wrapped struct{ err error }

func (w wrapped) Error() string { return "wrapped: " + w.err.Error() }

func (w wrapped) Unwrap() error { return w.err }

// other: an error that has none in it.
type other struct{}

func (other) Error() string { return "other" }

// TestCaught: whatever is thrown within is an error without, and never OK.
func TestCaught(t *testing.T) {
	var none []byte
	for name, c := range map[string]struct {
		read func()
		want api.Errno
	}{
		"nothing":           {func() {}, api.OK},
		"a number":          {func() { panic(api.ErrShort) }, api.ErrShort},
		"a wrapped number":  {func() { panic(wrapped{wrapped{api.ErrSum}}) }, api.ErrSum},
		"another error":     {func() { panic(wrapped{other{}}) }, api.ErrForm},
		"a runtime error":   {func() { _ = none[len(none)] }, api.ErrForm},
		"no error":          {func() { panic("text") }, api.ErrForm},
		"a check that held": {func() { must(true, api.ErrLong) }, api.OK},
		"a check that fell": {func() { must(false, api.ErrLong) }, api.ErrLong},
	} {
		if got := caught(c.read); got != c.want {
			t.Errorf("P12.4: %s: %v, not %v", name, got, c.want)
		}
	}
}
