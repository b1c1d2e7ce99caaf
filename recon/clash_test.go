package recon

import (
	"testing"

	"tidewater/api"
	"tidewater/plan"
)

// P16.1: another plan that is decided is ErrClash. (By the book's calls none comes by, so this is asked of the way itself.)
func TestClash(t *testing.T) {
	p := plan.Plan{Epoch: 2, Chains: [][]int{{0, 1}, {2}}}
	for _, k := range []struct {
		decided plan.Plan
		err     error
	}{
		{plan.Plan{Epoch: 3, Chains: [][]int{{0, 1}, {2}}}, nil},
		{plan.Plan{Epoch: 3, Chains: [][]int{{0, 1}, {2, 3}}}, api.ErrClash},
		{plan.Plan{Epoch: 3, Chains: [][]int{{1, 0}, {2}}}, api.ErrClash},
		{plan.Plan{Epoch: 3, Chains: [][]int{{1}, {2}}}, api.ErrClash},
		{p, api.ErrClash},
		{plan.Plan{}, api.ErrClash},
	} {
		r, err := New(p, nil, -1, 0)
		if err != nil {
			t.Fatal(err)
		}
		r.state = Deciding
		if err := r.agree(k.decided); err != k.err || (r.state == Beginning) != (err == nil) {
			t.Errorf("%v is decided: %v, %d", k.decided, err, r.state)
		}
	}
}
