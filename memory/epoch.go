package memory

import (
	"maps"
	"slices"

	"sacristan/api"
	"sacristan/block"
	"sacristan/seal"
)

// partition is what was read, and what was written, of Part blocks, one of which at least is touched.
type partition struct{ read, written api.Digest }

// part is the partition of a block that is accessed.
func (m *Memory) part(at int) *partition {
	i := at / api.Part
	if m.parts[i] == nil {
		m.parts[i] = &partition{written: m.certified.Sums[i]}
	}
	return m.parts[i]
}

// begin begins the epoch behind x, which is certified.
func (m *Memory) begin(x api.Seal) {
	m.certified, m.now = x, x
	m.seq = 0
	m.parts = map[int]*partition{}
}

// settle poisons, if err is that something failed; what was refused leaves all as it was.
func (m *Memory) settle(err error) {
	switch number(err) {
	case api.ErrForged, api.ErrPower, api.ErrAudit, api.ErrCounter:
		m.poisoned = true
	}
}

// sound is whether nothing failed so far.
func (m *Memory) sound() error {
	if m.poisoned {
		return &fault{api.ErrPoison, "something failed ahead of this"}
	}
	return nil
}

// access rewrites a block, with fresh bytes, or with its own, if there are no fresh ones: so the world cannot tell
// whether it is read or written. It tells what the block had.
func (m *Memory) access(at int, fresh ...[]byte) (shown []byte, err error) {
	defer func() {
		m.settle(err)
		if err != nil {
			shown = nil
		}
	}()
	if err := m.admit(at, fresh...); err != nil {
		return nil, err
	}
	kept, err := m.read(at, seal.Slot(m.now, at))
	if err != nil {
		return nil, err
	}
	if shown, err = m.show(kept); err != nil {
		return nil, err
	}
	fold := m.folder(&m.part(at).read)
	fold(at, kept)
	body := shown
	for _, b := range fresh {
		body = b
	}
	return shown, m.renew(at, body)
}

// admit is whether a block may be accessed, with such bytes.
func (m *Memory) admit(at int, fresh ...[]byte) error {
	if err := m.sound(); err != nil {
		return err
	}
	if at < 0 || at >= m.certified.Blocks {
		return &fault{api.ErrArg, "no such block"}
	}
	for _, b := range fresh {
		if len(b) > api.Body {
			return &fault{api.ErrArg, "longer than a block"}
		}
	}
	if m.seq >= m.limit {
		return &fault{api.ErrEpoch, "no more may be written ahead of a Sync"}
	}
	return nil
}

// show tells what is hidden in what is kept of a block, if it may have been hidden ahead of now.
func (m *Memory) show(kept []byte) ([]byte, error) {
	shown, e := block.Show(m.hiding, kept)
	if e != api.OK {
		return nil, &fault{api.ErrForged, "not of the form of a block"}
	}
	epoch, seq, _ := block.When(kept)
	if epoch > m.certified.Number || epoch == m.certified.Number && seq > uint32(m.seq) {
		return nil, &fault{api.ErrForged, "a block of a time that is still to come"}
	}
	return shown, nil
}

// renew hides body in the slot of a block that is not certified: the certified one stays till more is.
func (m *Memory) renew(at int, body []byte) error {
	m.seq++
	slot := 1 - seal.Slot(m.certified, at)
	kept, err := m.write(at, slot, m.certified.Number, m.seq, body)
	if err != nil {
		return err
	}
	if seal.Slot(m.now, at) != slot {
		m.now = seal.Flip(m.now, at)
	}
	fold := m.folder(&m.part(at).written)
	fold(at, kept)
	return nil
}

// sync audits all that was accessed, certifies it, and begins the next epoch.
func (m *Memory) sync() (err error) {
	defer func() { m.settle(err) }()
	if err := m.sound(); err != nil {
		return err
	}
	audited, err := m.audit()
	if err != nil {
		return err
	}
	next, err := m.certify(audited)
	if err != nil {
		return err
	}
	m.begin(next)
	return nil
}

// audit reads each partition that was accessed once more, and tells what is to be certified: these slots, and new sums.
func (m *Memory) audit() (api.Seal, error) {
	audited := m.now
	audited.Sums = slices.Clone(m.now.Sums)
	var failed error
auditing:
	for _, i := range slices.Sorted(maps.Keys(m.parts)) {
		part, left := m.parts[i], api.Digest{}
		fold := m.folder(&part.read, &left)
		for at := i * api.Part; at < min((i+1)*api.Part, m.certified.Blocks); at++ {
			kept, err := m.read(at, seal.Slot(m.now, at))
			if err != nil {
				failed = err
				break auditing
			}
			fold(at, kept)
		}
		if part.read != part.written {
			failed = &fault{api.ErrAudit, "what was read is not what was written"}
			break auditing
		}
		audited.Sums[i] = left
	}
	if failed != nil {
		return api.Seal{}, failed
	}
	return audited, nil
}
