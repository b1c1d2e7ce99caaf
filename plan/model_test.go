package plan_test

import (
	"math"
	"slices"

	"tidewater/api"
	"tidewater/plan"
)

// odd is numbers that are wrong wherever the document names a bound.
func odd() []int {
	return []int{math.MinInt, math.MinInt + 1, -1 << 32, -1 << 31, -4096, -13, 1 << 31, 1 << 32, 1<<32 + 1, 1 << 62, math.MaxInt - 1, math.MaxInt}
}

// sized is a plan of chains of so many units, numbered along its chains from first on, by strides (round behind 11).
func sized(epoch, first, stride int, sizes ...int) plan.Plan {
	p := plan.Plan{Epoch: epoch}
	unit := first
	for _, size := range sizes {
		chain := []int{}
		for range size {
			chain = append(chain, unit)
			unit = (unit + stride) % 12
		}
		p.Chains = append(p.Chains, chain)
	}
	return p
}

// shapes is all rows of how many units the chains of a right plan may have.
func shapes() [][]int {
	var all [][]int
	for a := 1; a <= 3; a++ {
		all = append(all, []int{a})
		for b := 1; b <= 3; b++ {
			all = append(all, []int{a, b})
			for c := 1; c <= 3; c++ {
				all = append(all, []int{a, b, c})
			}
		}
	}
	return all
}

// rights is right plans of all shapes, each with its units in several orders.
func rights(epoch int) []plan.Plan {
	var all []plan.Plan
	for _, sizes := range shapes() {
		for _, from := range [][2]int{{0, 1}, {11, 11}, {2, 5}, {7, 7}} {
			all = append(all, sized(epoch, from[0], from[1], sizes...))
		}
	}
	return all
}

// wrongs is plans that aren't right, by each word of what is right.
func wrongs() []plan.Plan {
	all := []plan.Plan{
		{},
		{Epoch: 1, Chains: [][]int{}},
		{Chains: [][]int{{}}},
		{Chains: [][]int{nil, {0}}},
		{Chains: [][]int{{0}, {}}},
		{Chains: [][]int{{0}, {1}, nil}},
		{Chains: [][]int{{0, 1, 2, 3}}},
		{Chains: [][]int{{4}, {0, 1, 2, 3}}},
		{Chains: [][]int{{0}, {1}, {2}, {3}}},
		{Chains: [][]int{{0}, {1}, {2}, {}}},
		{Chains: [][]int{{0, 0}}},
		{Chains: [][]int{{11, 3, 11}}},
		{Chains: [][]int{{0}, {1}, {0}}},
		{Chains: [][]int{{1, 2}, {3, 2}}},
		{Chains: [][]int{{-1}}},
		{Chains: [][]int{{0, 12}}},
		{Chains: [][]int{{0}, {1, -1}}},
		{Chains: [][]int{{0}, {1}, {12, 2}}},
		{Epoch: -1, Chains: [][]int{{0}}},
		{Epoch: api.MaxEpoch + 1, Chains: [][]int{{0}}},
		{Epoch: api.MaxEpoch, Chains: [][]int{{0}, {0}}},
		{Epoch: -1},
	}
	for _, n := range odd() {
		all = append(all, plan.Plan{Epoch: n, Chains: [][]int{{0, 1}}}, plan.Plan{Chains: [][]int{{0}, {3, n}}})
	}
	return append(all, plan.Plan{Chains: make([][]int, 1000)}, plan.Plan{Chains: [][]int{make([]int, 1000)}})
}

// right tells what the words do: the bounds, and no unit twice, by holding each unit against all others.
func right(p plan.Plan) bool {
	if p.Epoch < 0 || p.Epoch > 1<<30 || len(p.Chains) == 0 || len(p.Chains) > 3 {
		return false
	}
	for c, chain := range p.Chains {
		if len(chain) == 0 || len(chain) > 3 {
			return false
		}
		for i, unit := range chain {
			if unit < 0 || unit > 11 || slices.Contains(chain[:i], unit) {
				return false
			}
			for _, other := range p.Chains[:c] {
				if slices.Contains(other, unit) {
					return false
				}
			}
		}
	}
	return true
}

// alike tells whether plans have the same fields, nil and empty lists being one.
func alike(a, b plan.Plan) bool {
	if a.Epoch != b.Epoch || len(a.Chains) != len(b.Chains) {
		return false
	}
	for c, chain := range a.Chains {
		if len(chain) != len(b.Chains[c]) {
			return false
		}
		for i, unit := range chain {
			if unit != b.Chains[c][i] {
				return false
			}
		}
	}
	return true
}

// none tells whether a plan is what stands beside an error.
func none(p plan.Plan) bool { return p.Epoch == 0 && len(p.Chains) == 0 }

// A spot is a chain, and an own address of its units.
type spot struct{ chain, at int }

// spots is where addresses stand, as they are dealt to so many chains by turns, up to own address most.
func spots(chains, most int) []spot {
	var all []spot
	for at := 0; at <= most; at++ {
		for chain := range chains {
			all = append(all, spot{chain, at})
		}
	}
	return all
}

// tailOf is the address behind the last one of dealt spots at which there is a page: each chain has them below its tail.
func tailOf(dealt []spot, tails []int) int {
	last := len(dealt)
	for last > 0 {
		s := dealt[last-1]
		if s.chain < len(tails) && s.at < tails[s.chain] && s.at < 4096 {
			break
		}
		last--
	}
	return last
}

// nextOf is what the words tell of Replace.
func nextOf(p plan.Plan, gone []int, fresh int) (plan.Plan, error) {
	if !right(p) {
		return plan.Plan{}, api.ErrForm
	}
	if p.Epoch == 1<<30 {
		return plan.Plan{}, api.ErrEpoch
	}
	q := plan.Plan{Epoch: p.Epoch + 1}
	has := false
	lost := []int{}
	for c, chain := range p.Chains {
		stay := []int{}
		for _, unit := range chain {
			has = has || unit == fresh
			if !slices.Contains(gone, unit) {
				stay = append(stay, unit)
			}
		}
		if len(stay) == 0 {
			return plan.Plan{}, api.ErrNone
		}
		if len(stay) < len(chain) {
			lost = append(lost, c)
		}
		q.Chains = append(q.Chains, stay)
	}
	if fresh < 0 {
		return q, nil
	}
	if fresh > 11 {
		return plan.Plan{}, api.ErrRange
	}
	if has {
		return plan.Plan{}, api.ErrState
	}
	if len(lost) > 0 {
		q.Chains[lost[0]] = append(q.Chains[lost[0]], fresh)
		return q, nil
	}
	for size := 1; size < 3; size++ {
		for c := range q.Chains {
			if len(q.Chains[c]) == size {
				q.Chains[c] = append(q.Chains[c], fresh)
				return q, nil
			}
		}
	}
	return plan.Plan{}, api.ErrFull
}

// num is a number's bytes.
func num(n int) []byte {
	if n < 128 {
		return []byte{byte(n)}
	}
	return append([]byte{byte(128 + n%128)}, num(n/128)...)
}

// bytesOf is a plan's bytes, of numbers that aren't below 0.
func bytesOf(p plan.Plan) []byte {
	b := append(num(p.Epoch), num(len(p.Chains))...)
	for _, chain := range p.Chains {
		b = append(b, num(len(chain))...)
		for _, unit := range chain {
			b = append(b, num(unit)...)
		}
	}
	return b
}

// A reader reads numbers, up to its first error.
type reader struct {
	left []byte
	err  error
}

// num is the next number, or 0.
func (r *reader) num(most uint64) int {
	if r.err != nil {
		return 0
	}
	n, weight := uint64(0), uint64(1)
	for i, b := range r.left[:min(9, len(r.left))] {
		n += uint64(b%128) * weight
		weight *= 128
		if b >= 128 {
			continue
		}
		if b == 0 && i > 0 || n >= 1<<62 {
			r.err = api.ErrForm
			return 0
		}
		r.left = r.left[i+1:]
		if n > most {
			r.err = api.ErrRange
			return 0
		}
		return int(n)
	}
	r.err = api.ErrForm
	if len(r.left) < 9 {
		r.err = api.ErrShort
	}
	return 0
}

// readOf is what the words tell of Read.
func readOf(b []byte) (plan.Plan, error) {
	r := &reader{left: b}
	p := plan.Plan{Epoch: r.num(1 << 30)}
	for range r.num(3) {
		chain := []int{}
		for range r.num(3) {
			chain = append(chain, r.num(12))
		}
		p.Chains = append(p.Chains, chain)
	}
	if r.err == nil && (len(r.left) > 0 || !right(p)) {
		r.err = api.ErrForm
	}
	if r.err != nil {
		return plan.Plan{}, r.err
	}
	return p, nil
}
