package memory

import (
	"errors"

	"sacristan/api"
)

// fault is an error of this package: a number for whoever calls, and what is wrong in words.
type fault struct {
	number api.Errno
	what   string
}

// Error: in words.
func (f *fault) Error() string { return "memory: " + f.what }

// number tells the number of the fault in err; OK, if there is none.
func number(err error) api.Errno {
	var f *fault
	if errors.As(err, &f) {
		return f.number
	}
	return api.OK
}
