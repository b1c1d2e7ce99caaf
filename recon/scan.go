package recon

import (
	"tidewater/api"
	"tidewater/chain"
	"tidewater/entry"
	"tidewater/page"
	"tidewater/plan"
	"tidewater/token"
)

// newest is the newest addresses of each stream, the newest one first.
type newest [api.MaxShards + 1][]int

// Scan is a sequencer of what a log has.
func Scan(us chain.Units, p plan.Plan) (*token.Sequencer, error) {
	tail, err := chain.Tail(us, p)
	if err != nil {
		return nil, err
	}
	var found newest
	for a := tail - 1; a >= 0; a-- {
		streams, err := streamsAt(us, p, a)
		if err != nil {
			return nil, err
		}
		found.add(a, streams)
	}
	return token.New(p.Epoch, tail, found.backs())
}

// streamsAt is the streams of the page at an address; none, if there is no page.
func streamsAt(us chain.Units, p plan.Plan, a int) ([]int, error) {
	b, err := chain.Read(us, p, a)
	if nothing(err) {
		return nil, nil
	}
	if err != nil {
		return nil, err
	}
	e, _, err := page.Read(b)
	if err != nil {
		// It is junk: no stream has it.
		return nil, nil
	}
	return entry.Streams(e), nil
}

// add puts an address behind those of its streams, where there is room.
func (n *newest) add(address int, streams []int) {
	for _, s := range streams {
		if len(n[s]) < api.MaxBack {
			n[s] = append(n[s], address)
		}
	}
}

// backs is what it has, stream by stream.
func (n *newest) backs() []api.Back {
	var backs []api.Back
	for s, addresses := range n {
		backs = append(backs, api.Back{Stream: s, Addresses: addresses})
	}
	return backs
}
