package memory

import (
	"errors"
	"testing"

	"sacristan/api"
	"sacristan/world"
)

// wrapped is an error about another one.
type wrapped struct{ inner error }

func (w wrapped) Error() string { return "wrapped: " + w.inner.Error() }
func (w wrapped) Unwrap() error { return w.inner }

// A fault's number is found, however it is wrapped; what is no fault has none.
func TestNumber(t *testing.T) {
	for _, c := range []struct {
		err  error
		want api.Errno
	}{
		{nil, api.OK},
		{lost(), api.ErrPower},
		{wrapped{wrapped{lost()}}, api.ErrPower},
		{errors.New("another thing"), api.OK},
	} {
		if got := number(c.err); got != c.want {
			t.Errorf("the number of %v is %d, not %d", c.err, got, c.want)
		}
	}
	if lost().Error() != "memory: power is lost" {
		t.Errorf("a fault says %q", lost())
	}
}

// What failed poisons, what was refused does not.
func TestSettle(t *testing.T) {
	for e, want := range map[api.Errno]bool{api.OK: false, api.ErrArg: false, api.ErrEpoch: false, api.ErrForged: true, api.ErrPower: true, api.ErrAudit: true, api.ErrCounter: true} {
		m := new(Memory)
		m.settle(&fault{e, "some fault"})
		if m.Poisoned() != want {
			t.Errorf("behind %d it is poisoned: %v", e, m.Poisoned())
		}
	}
}

// As many accesses as an epoch may have, without going through all of them.
func TestMostAccesses(t *testing.T) {
	for _, limit := range []int{-1, api.MaxSeq, api.MaxSeq + 1} {
		w := world.New(1)
		Format(w, nil)
		m, e := Mount(w, nil)
		if e != api.OK {
			t.Fatalf("Mount tells %d", e)
		}
		if limit > 0 {
			m.Limit(limit)
		}
		m.seq = api.MaxSeq - 1
		if _, e := m.Read(0); e != api.OK {
			t.Errorf("the last access tells %d", e)
		}
		if _, e := m.Read(0); e != api.ErrEpoch || m.Poisoned() {
			t.Errorf("one access more tells %d", e)
		}
		if e := m.Sync(); e != api.OK {
			t.Errorf("Sync tells %d", e)
		}
		if e := m.Write(0, nil); e != api.OK {
			t.Errorf("an access of the next epoch tells %d", e)
		}
	}
}
