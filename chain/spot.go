package chain

import (
	"bytes"
	"errors"

	"tidewater/api"
	"tidewater/plan"
)

// A spot is where an address stands: an own address of units, which are asked by an epoch.
type spot struct {
	us     Units
	epoch  int
	copies []int
	own    int
}

// place is the spot of a plan's address.
func place(us Units, p plan.Plan, a int) (spot, error) {
	chain, own, err := plan.Place(p, a)
	if err != nil {
		return spot{}, err
	}
	return spot{us, p.Epoch, p.Chains[chain], own}, nil
}

// write writes copy k.
func (s spot) write(k int, b []byte) error {
	u, err := s.us.up(s.copies[k])
	if err != nil {
		return err
	}
	err = u.Write(s.epoch, s.own, b)
	if k == 0 || !errors.Is(err, api.ErrWritten) {
		return err
	}
	// Whoever has read or filled the address meanwhile may have written this copy: with the first one's page.
	has, err := s.read(k)
	if err == nil && !bytes.Equal(has, b) {
		err = api.ErrState
	}
	return err
}

// writeFrom writes copy k and all behind it.
func (s spot) writeFrom(k int, b []byte) error {
	for ; k < len(s.copies); k++ {
		if err := s.write(k, b); err != nil {
			return err
		}
	}
	return nil
}

// read is what copy k has.
func (s spot) read(k int) ([]byte, error) {
	u, err := s.us.up(s.copies[k])
	if err != nil {
		return nil, err
	}
	return u.Read(s.epoch, s.own)
}

// finish writes what the first copy has to the others: only then may it be told, as it is the last one that is read.
func (s spot) finish(b []byte) ([]byte, error) {
	if err := s.writeFrom(1, b); err != nil {
		return nil, err
	}
	return b, nil
}
