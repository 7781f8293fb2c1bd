package memory

import (
	"math"

	"sacristan/api"
	"sacristan/block"
	"sacristan/seal"
	"sacristan/sum"
	"sacristan/world"
)

const (
	sealCount = 2 // that are written by turns
	perByte   = 8 // blocks whose slots a byte of a Seal tells
)

// store is a world, and the keys of what is kept in it. Its steps tell an error, where they may fail.
type store struct {
	world   *world.World
	hiding  api.Key
	summing []byte
	sealing []byte
}

// storeOf is that world, by that master.
func storeOf(w *world.World, master []byte) store {
	hiding, summing, sealing := Keys(master)
	return store{world: w, hiding: hiding, summing: summing, sealing: sealing}
}

// undone is why the world did not do what only power, or the counter, can keep it from.
func (s store) undone() error {
	if s.world.Dead() {
		return lost()
	}
	return &fault{api.ErrCounter, "the counter cannot rise"}
}

// lost is that there is no power.
func lost() error { return &fault{api.ErrPower, "power is lost"} }

// bump makes the counter rise.
func (s store) bump() error {
	if !s.world.Bump() {
		return s.undone()
	}
	return nil
}

// read tells what is kept of a block in a slot, whatever the world says that this is.
func (s store) read(at int, slot int) ([]byte, error) {
	kept := s.world.Read(at, slot)
	// That it told nothing may be a lie: it is asked whether it is dead.
	if s.world.Dead() {
		return nil, lost()
	}
	return kept, nil
}

// write hides body in a slot of a block, and tells what is kept of it then. Nobody calls it with more than Body bytes.
func (s store) write(at int, slot int, epoch uint64, seq int, body []byte) ([]byte, error) {
	kept, _ := block.Hide(s.hiding, epoch, uint32(seq), body)
	if !s.world.Write(at, slot, kept) {
		return nil, lost()
	}
	return kept, nil
}

// folder is a function that folds what is kept of a block into all of sums.
func (s store) folder(sums ...*api.Digest) func(at int, kept []byte) {
	return func(at int, kept []byte) {
		d := sum.Of(s.summing, at, kept)
		for _, gathered := range sums {
			*gathered = sum.Add(*gathered, d)
		}
	}
}

// certify seals x with one Number more, and tells that. x has to be Right.
func (s store) certify(x api.Seal) (api.Seal, error) {
	if x.Number == math.MaxUint64 {
		return api.Seal{}, &fault{api.ErrCounter, "there is no greater number"}
	}
	x.Number++
	record, _ := seal.Encode(s.sealing, x)
	if !s.world.Seal(int(x.Number%sealCount), record) {
		return api.Seal{}, s.undone()
	}
	if err := s.bump(); err != nil {
		return api.Seal{}, err
	}
	return x, nil
}

// format lays nothing into each block, and certifies that.
func (s store) format() error {
	if err := s.bump(); err != nil {
		return err
	}
	epoch, blocks := s.world.Counter(), s.world.Blocks()
	sums := make([]api.Digest, seal.Parts(blocks))
	for at := range blocks {
		kept, err := s.write(at, 0, epoch, at, nil)
		if err != nil {
			return err
		}
		fold := s.folder(&sums[at/api.Part])
		fold(at, kept)
	}
	slots := make([]byte, (blocks+perByte-1)/perByte)
	_, err := s.certify(api.Seal{Number: epoch, Blocks: blocks, Slots: slots, Sums: sums})
	return err
}

// mount chooses the seal that the counter stands for, and certifies it anew, so that the epoch is one that never was.
func (s store) mount() (api.Seal, error) {
	first, second := s.world.Look(0), s.world.Look(1)
	if s.world.Dead() {
		return api.Seal{}, lost()
	}
	chosen, e := seal.Choose(s.sealing, s.world.Counter(), first, second)
	if e != api.OK {
		return api.Seal{}, &fault{e, "no seal is the counter's"}
	}
	if chosen.Blocks != s.world.Blocks() {
		return api.Seal{}, &fault{api.ErrForged, "a seal of another world"}
	}
	if chosen.Number != s.world.Counter() {
		if err := s.bump(); err != nil {
			return api.Seal{}, err
		}
	}
	return s.certify(chosen)
}
