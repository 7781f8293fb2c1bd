package block

import (
	"errors"
	"testing"

	"sacristan/api"
)

// wrapped is an error about another one.
type wrapped struct{ inner error }

func (w wrapped) Error() string { return "wrapped: " + w.inner.Error() }
func (w wrapped) Unwrap() error { return w.inner }

// A fault's number is found, however it is wrapped; what is no fault has none.
func TestNumber(t *testing.T) {
	found := &fault{api.ErrForm, "longer than a block"}
	for _, c := range []struct {
		err  error
		want api.Errno
	}{
		{nil, api.OK},
		{found, api.ErrForm},
		{wrapped{wrapped{found}}, api.ErrForm},
		{errors.New("another thing"), api.OK},
	} {
		if got := number(c.err); got != c.want {
			t.Errorf("the number of %v is %d, not %d", c.err, got, c.want)
		}
	}
	if found.Error() != "block: longer than a block" {
		t.Errorf("a fault says %q", found.Error())
	}
}
