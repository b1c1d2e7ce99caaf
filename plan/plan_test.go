package plan_test

import (
	"bytes"
	"math"
	"math/rand"
	"slices"
	"testing"

	"tidewater/api"
	"tidewater/plan"
)

// P10.1: Right.

func TestRightOfAllShapes(t *testing.T) {
	for _, epoch := range []int{0, 1, 2, 1<<30 - 1, 1 << 30} {
		for _, p := range rights(epoch) {
			if !plan.Right(p) {
				t.Errorf("%v isn't right", p)
			}
		}
	}
}

func TestRightOfWrongPlans(t *testing.T) {
	for _, p := range wrongs() {
		if plan.Right(p) {
			t.Errorf("%v is right", p)
		}
	}
}

func TestRightOfEpochs(t *testing.T) {
	for _, p := range rights(0) {
		for _, epoch := range append([]int{-2, -1, 1<<30 + 1, 1<<30 + 2, 1<<31 - 1}, odd()...) {
			p.Epoch = epoch
			if plan.Right(p) {
				t.Errorf("%v is right", p)
			}
		}
	}
}

func TestRightOfAllSizes(t *testing.T) {
	// Units enough for chains that are too long, each once, so that it is the sizes alone that are wrong.
	var longer func(sizes []int)
	longer = func(sizes []int) {
		p := sized(3, 0, 1, sizes...)
		want := len(sizes) >= 1 && len(sizes) <= 3
		units := 0
		for _, size := range sizes {
			want = want && size >= 1 && size <= 3
			units += size
		}
		if units <= 12 && plan.Right(p) != want {
			t.Errorf("%v: %v", p, !want)
		}
		if len(sizes) == 5 {
			return
		}
		for size := range 6 {
			longer(append(slices.Clone(sizes), size))
		}
	}
	longer(nil)
}

func TestRightOfEachUnit(t *testing.T) {
	units := []int{-2, -1, 0, 1, 2, 3, 4, 5, 6, 7, 8, 9, 10, 11, 12, 13}
	for _, p := range rights(7) {
		for c := range p.Chains {
			for i := range p.Chains[c] {
				for _, unit := range append(units, odd()...) {
					q := plan.Copy(p)
					q.Chains[c][i] = unit
					if plan.Right(q) != right(q) {
						t.Errorf("%v: %v", q, plan.Right(q))
					}
				}
			}
		}
	}
}

// few is all plans of up to two chains of up to four units at edges.
func few(do func(p plan.Plan)) {
	var chains [][]int
	var longer func(chain []int)
	longer = func(chain []int) {
		chains = append(chains, chain)
		if len(chain) == 4 {
			return
		}
		for _, unit := range []int{-1, 0, 11, 12} {
			longer(append(slices.Clone(chain), unit))
		}
	}
	longer(nil)
	do(plan.Plan{})
	for _, a := range chains {
		do(plan.Plan{Chains: [][]int{a}})
		for _, b := range chains {
			do(plan.Plan{Chains: [][]int{a, b}})
		}
	}
}

func TestRightOfAllFewUnits(t *testing.T) {
	few(func(p plan.Plan) {
		if plan.Right(p) != right(p) {
			t.Fatalf("%v: %v", p, plan.Right(p))
		}
	})
}

// thrown does something with plans that chance makes, about half of them right.
func thrown(seed int64, many int, do func(p plan.Plan, r *rand.Rand)) {
	r := rand.New(rand.NewSource(seed))
	for range many {
		units := r.Perm(12)
		p := plan.Plan{Epoch: r.Intn(1 << 30)}
		for range 1 + r.Intn(3) {
			size := 1 + r.Intn(3)
			p.Chains = append(p.Chains, slices.Clone(units[:size]))
			units = units[size:]
		}
		chain := p.Chains[r.Intn(len(p.Chains))]
		switch r.Intn(12) {
		case 0:
			p.Epoch = r.Intn(4) - 2 + 1<<30
		case 1:
			p.Epoch = r.Intn(4) - 2
		case 2, 3, 4:
			chain[r.Intn(len(chain))] = r.Intn(14) - 1
		case 5:
			p.Chains[r.Intn(len(p.Chains))] = units[:r.Intn(len(units)+1)]
		case 6:
			p.Chains = append(p.Chains, units[:min(len(units), r.Intn(3))])
		}
		do(p, r)
	}
}

func TestRightOfThrownPlans(t *testing.T) {
	seen := map[bool]int{}
	thrown(1, 50000, func(p plan.Plan, _ *rand.Rand) {
		seen[right(p)]++
		if plan.Right(p) != right(p) {
			t.Fatalf("%v: %v", p, plan.Right(p))
		}
	})
	if seen[true] < 10000 || seen[false] < 10000 {
		t.Errorf("right and wrong ones: %v", seen)
	}
}

// P10.1: Place, Address, Tail.

func TestPlaceAndAddressOfTheExample(t *testing.T) {
	p := plan.Plan{Chains: [][]int{{0, 1}, {2, 3}}}
	if chain, at, err := plan.Place(p, 5); chain != 1 || at != 2 || err != nil {
		t.Errorf("Place: %d, %d, %v", chain, at, err)
	}
	if a := plan.Address(p, 1, 2); a != 5 {
		t.Errorf("Address: %d", a)
	}
}

func TestPlaceOfAllAddresses(t *testing.T) {
	for _, p := range rights(4) {
		for a, want := range spots(len(p.Chains), 4096)[:4096] {
			if chain, at, err := plan.Place(p, a); chain != want.chain || at != want.at || err != nil {
				t.Fatalf("%v, %d: %d, %d, %v", p, a, chain, at, err)
			}
		}
	}
}

func TestPlaceOfWrongArguments(t *testing.T) {
	beyond := append([]int{-3, -2, -1, 4096, 4097, 4098, 8192, 12287, 12288}, odd()...)
	for _, p := range rights(4) {
		for _, a := range beyond {
			if chain, at, err := plan.Place(p, a); chain != 0 || at != 0 || err != api.ErrRange {
				t.Errorf("%v, %d: %d, %d, %v", p, a, chain, at, err)
			}
		}
	}
	for _, p := range wrongs() {
		for _, a := range append([]int{0, 1, 5, 4095}, beyond...) {
			if chain, at, err := plan.Place(p, a); chain != 0 || at != 0 || err != api.ErrForm {
				t.Errorf("%v, %d: %d, %d, %v", p, a, chain, at, err)
			}
		}
	}
}

func TestAddressOfAllOwnOnes(t *testing.T) {
	for _, p := range rights(4) {
		for a, s := range spots(len(p.Chains), 4096) {
			if got := plan.Address(p, s.chain, s.at); got != a {
				t.Fatalf("%v, %d, %d: %d", p, s.chain, s.at, got)
			}
		}
	}
}

func TestAddressOfWrongArguments(t *testing.T) {
	chains := append([]int{-3, -2, -1, 0, 1, 2, 3, 4, 12}, odd()...)
	owns := append([]int{-2, -1, 0, 1, 4095, 4096, 4097, 4098, 8192}, odd()...)
	all := append(rights(4), wrongs()...)
	for _, p := range all {
		for _, chain := range chains {
			for _, at := range owns {
				if right(p) && chain >= 0 && chain < len(p.Chains) && at >= 0 && at <= 4096 {
					continue
				}
				if a := plan.Address(p, chain, at); a != -1 {
					t.Fatalf("%v, %d, %d: %d", p, chain, at, a)
				}
			}
		}
	}
}

// ends is lists of up to so many tails at edges.
func ends(most int) [][]int {
	some := []int{math.MinInt, -1, 0, 1, 2, 3, 7, 4095, 4096, 4097, math.MaxInt}
	all := [][]int{nil}
	for from, size := 0, 1; size <= most; size++ {
		to := len(all)
		for _, list := range all[from:to] {
			for _, tail := range some {
				all = append(all, append(slices.Clone(list), tail))
			}
		}
		from = to
	}
	return all
}

func TestTailAtEdges(t *testing.T) {
	for _, sizes := range [][]int{{1}, {3}, {1, 1}, {3, 2}, {1, 1, 1}, {2, 3, 3}} {
		p := sized(9, 3, 1, sizes...)
		dealt := spots(len(sizes), 4096)
		for _, tails := range ends(len(sizes) + 1) {
			if tail, want := plan.Tail(p, tails), tailOf(dealt, tails); tail != want {
				t.Fatalf("%v, %v: %d, not %d", p, tails, tail, want)
			}
		}
	}
}

func TestTailOfEachPage(t *testing.T) {
	// With one page more, the tail is behind it, and nothing else changes it.
	for chains := 1; chains <= 3; chains++ {
		p := sized(0, 0, 1, []int{2, 1, 3}[:chains]...)
		tails := make([]int, chains)
		for a, s := range spots(chains, 4095) {
			tails[s.chain]++
			if tail := plan.Tail(p, tails); tail != a+1 {
				t.Fatalf("%v, %v: %d, not %d", p, tails, tail, a+1)
			}
		}
	}
}

func TestTailOfKnownOnes(t *testing.T) {
	two := plan.Plan{Chains: [][]int{{0, 1}, {2, 3}}}
	three := plan.Plan{Epoch: 5, Chains: [][]int{{0}, {4}, {9}}}
	for _, k := range []struct {
		p     plan.Plan
		tails []int
		want  int
	}{
		{two, []int{1, 2}, 4}, {two, []int{2, 1}, 3}, {two, []int{2, 2}, 4}, {two, []int{0, 0}, 0}, {two, nil, 0}, {two, []int{}, 0},
		{two, []int{5}, 9}, {two, []int{-5, 1}, 2}, {two, []int{0, 1, 4096}, 2}, {two, []int{4097, 0}, 8191}, {two, []int{0, 4096}, 8192},
		{three, []int{1, 1, 1}, 3}, {three, []int{2, 1, 1}, 4}, {three, []int{1, 2, 1}, 5}, {three, []int{math.MaxInt, math.MinInt, -1}, 12286},
		{three, []int{0, 0, 0, 9, 9}, 0}, {three, []int{4096, 4096, 4096}, 12288},
	} {
		if tail := plan.Tail(k.p, k.tails); tail != k.want {
			t.Errorf("%v, %v: %d, not %d", k.p, k.tails, tail, k.want)
		}
	}
}

func TestTailOfWrongPlans(t *testing.T) {
	for _, p := range wrongs() {
		for _, tails := range [][]int{nil, {1}, {3, 4}, {3, 4, 5, 6}, {4097, 1, 1}} {
			if tail := plan.Tail(p, tails); tail != 0 {
				t.Errorf("%v, %v: %d", p, tails, tail)
			}
		}
	}
}

// P10.2.

func TestPlaceAndAddressAreEachOthersWayBack(t *testing.T) {
	for _, p := range rights(1 << 30) {
		for a := range api.MaxLog {
			chain, at, err := plan.Place(p, a)
			if back := plan.Address(p, chain, at); back != a || err != nil {
				t.Fatalf("%v, %d: %d, %d, %v, and back %d", p, a, chain, at, err, back)
			}
		}
		for chain := range p.Chains {
			for at := 0; at <= api.MaxLog; at++ {
				a := plan.Address(p, chain, at)
				c, own, err := plan.Place(p, a)
				if a < api.MaxLog && (c != chain || own != at || err != nil) || a >= api.MaxLog && err != api.ErrRange {
					t.Fatalf("%v, %d, %d: %d, and back %d, %d, %v", p, chain, at, a, c, own, err)
				}
			}
		}
	}
}

// P10.1: Replace.

func TestReplaceOfKnownPlans(t *testing.T) {
	full := [][]int{{0, 1, 2}, {3, 4, 5}, {6, 7, 8}}
	for _, k := range []struct {
		name  string
		p     plan.Plan
		gone  []int
		fresh int
		want  [][]int
		err   error
	}{
		{"the example", plan.Plan{Chains: [][]int{{0, 1}, {2, 3}}}, []int{2}, 7, [][]int{{0, 1}, {3, 7}}, nil},
		{"nothing but the epoch", plan.Plan{Chains: full}, nil, -1, full, nil},
		{"the least below 0", plan.Plan{Chains: full}, nil, math.MinInt, full, nil},
		{"gone alone", plan.Plan{Chains: full}, []int{1, 8, 6}, -1, [][]int{{0, 2}, {3, 4, 5}, {7}}, nil},
		{"gone that aren't there", plan.Plan{Chains: full}, []int{-1, 9, 12, math.MaxInt, math.MinInt}, -1, full, nil},
		{"gone twice", plan.Plan{Chains: full}, []int{4, 4}, 9, [][]int{{0, 1, 2}, {3, 5, 9}, {6, 7, 8}}, nil},
		{"the first that has fewer", plan.Plan{Chains: full}, []int{6, 3}, 9, [][]int{{0, 1, 2}, {4, 5, 9}, {7, 8}}, nil},
		{"that has fewer, not the fewest", plan.Plan{Chains: [][]int{{0}, {3, 4, 5}}}, []int{5}, 9, [][]int{{0}, {3, 4, 9}}, nil},
		{"that has fewer first, not fewest", plan.Plan{Chains: [][]int{{0, 1, 2}, {3, 4}}}, []int{0, 4}, 11, [][]int{{1, 2, 11}, {3}}, nil},
		{"the first of the fewest", plan.Plan{Chains: [][]int{{0, 1}, {3}, {4}}}, nil, 11, [][]int{{0, 1}, {3, 11}, {4}}, nil},
		{"the only one with room", plan.Plan{Chains: [][]int{{0, 1, 2}, {3, 4, 5}, {6, 7}}}, nil, 11, [][]int{{0, 1, 2}, {3, 4, 5}, {6, 7, 11}}, nil},
		{"fresh is gone, and no unit of the plan", plan.Plan{Chains: [][]int{{0, 1}}}, []int{9}, 9, [][]int{{0, 1, 9}}, nil},
		{"fresh 0", plan.Plan{Chains: [][]int{{2, 1}}}, []int{1}, 0, [][]int{{2, 0}}, nil},
		{"not right, at the last epoch", plan.Plan{Epoch: 1 << 30, Chains: [][]int{{0, 0}}}, nil, -1, nil, api.ErrForm},
		{"an epoch that isn't right", plan.Plan{Epoch: 1<<30 + 1, Chains: [][]int{{0}}}, nil, -1, nil, api.ErrForm},
		{"none at all", plan.Plan{}, nil, 0, nil, api.ErrForm},
		{"the last epoch", plan.Plan{Epoch: 1 << 30, Chains: full}, nil, -1, nil, api.ErrEpoch},
		{"the last epoch, and an empty chain", plan.Plan{Epoch: 1 << 30, Chains: full}, []int{0, 1, 2}, 12, nil, api.ErrEpoch},
		{"an empty chain", plan.Plan{Chains: full}, []int{3, 4, 5}, -1, nil, api.ErrNone},
		{"an empty chain, the last one", plan.Plan{Chains: [][]int{{1}, {0}}}, []int{0}, -1, nil, api.ErrNone},
		{"an empty chain, to which one would come", plan.Plan{Chains: [][]int{{1}, {0}}}, []int{0}, 2, nil, api.ErrNone},
		{"an empty chain, and a unit too far", plan.Plan{Chains: full}, []int{0, 1, 2}, 12, nil, api.ErrNone},
		{"an empty chain, and a unit of the plan", plan.Plan{Chains: full}, []int{0, 1, 2}, 8, nil, api.ErrNone},
		{"a unit too far", plan.Plan{Chains: [][]int{{0}}}, nil, 12, nil, api.ErrRange},
		{"a unit far too far", plan.Plan{Chains: full}, nil, math.MaxInt, nil, api.ErrRange},
		{"a unit of the plan", plan.Plan{Chains: [][]int{{0}}}, nil, 0, nil, api.ErrState},
		{"a unit of the plan that is full", plan.Plan{Chains: full}, nil, 8, nil, api.ErrState},
		{"a unit that goes", plan.Plan{Chains: full}, []int{4}, 4, nil, api.ErrState},
		{"no room", plan.Plan{Chains: full}, nil, 9, nil, api.ErrFull},
		{"no room in one", plan.Plan{Chains: [][]int{{0, 1, 2}}}, []int{7}, 11, nil, api.ErrFull},
	} {
		q, err := plan.Replace(k.p, k.gone, k.fresh)
		want := plan.Plan{Epoch: k.p.Epoch + 1, Chains: k.want}
		if k.err != nil {
			want = plan.Plan{}
		}
		if err != k.err || !alike(q, want) {
			t.Errorf("%s: %v, %v", k.name, q, err)
		}
	}
}

func TestReplaceOfAllUnitsGone(t *testing.T) {
	freshes := []int{math.MinInt, -1, 0, 1, 5, 9, 10, 11, 12, math.MaxInt}
	for _, p := range append(rights(0), rights(1<<30-1)...) {
		units := slices.Concat(p.Chains...)
		for bits := range 1 << len(units) {
			// Never nil and never rising, and with what isn't of the plan.
			gone := []int{12, -1}
			for i := len(units) - 1; i >= 0; i-- {
				if bits>>i&1 == 1 {
					gone = append(gone, units[i])
				}
			}
			for _, fresh := range freshes {
				q, err := plan.Replace(p, gone, fresh)
				want, wantErr := nextOf(p, gone, fresh)
				if err != wantErr || !alike(q, want) || (err == nil) != right(q) {
					t.Fatalf("%v, %v, %d: %v, %v, not %v, %v", p, gone, fresh, q, err, want, wantErr)
				}
			}
		}
	}
}

func TestReplaceOfWrongPlans(t *testing.T) {
	for _, p := range wrongs() {
		for _, fresh := range []int{math.MinInt, -1, 0, 3, 11, 12, math.MaxInt} {
			for _, gone := range [][]int{nil, {0}, {0, 1, 2, 3}, {-1, 12}} {
				if q, err := plan.Replace(p, gone, fresh); err != api.ErrForm || !none(q) {
					t.Errorf("%v, %v, %d: %v, %v", p, gone, fresh, q, err)
				}
			}
		}
	}
}

func TestReplaceOfThrownPlans(t *testing.T) {
	seen := map[error]int{}
	thrown(2, 50000, func(p plan.Plan, r *rand.Rand) {
		if r.Intn(20) == 0 {
			p.Epoch = 1 << 30
		}
		gone := []int{}
		for range r.Intn(5) {
			gone = append(gone, r.Intn(14)-1)
		}
		fresh := r.Intn(16) - 2
		q, err := plan.Replace(p, gone, fresh)
		want, wantErr := nextOf(p, gone, fresh)
		if err != wantErr || !alike(q, want) {
			t.Fatalf("%v, %v, %d: %v, %v, not %v, %v", p, gone, fresh, q, err, want, wantErr)
		}
		seen[err]++
	})
	for _, err := range []error{nil, api.ErrForm, api.ErrEpoch, api.ErrNone, api.ErrRange, api.ErrState, api.ErrFull} {
		if seen[err] < 100 {
			t.Errorf("%v: %d", err, seen[err])
		}
	}
}

func TestReplaceAgainAndAgain(t *testing.T) {
	// A plan that loses and gains units goes through all of them, and each next one is right.
	p := plan.Plan{Chains: [][]int{{0, 1, 2}, {3, 4}, {5}}}
	for step := range 500 {
		gone := p.Chains[step%2][0]
		fresh := (step*5 + 6) % 12
		for slices.Contains(plan.Units(p), fresh) {
			fresh = (fresh + 1) % 12
		}
		q, err := plan.Replace(p, []int{gone}, fresh)
		if err != nil || !plan.Right(q) || q.Epoch != step+1 || slices.Contains(plan.Units(q), gone) || len(plan.Units(q)) != 6 {
			t.Fatalf("%v without %d, with %d: %v, %v", p, gone, fresh, q, err)
		}
		if chain := q.Chains[step%2]; chain[len(chain)-1] != fresh {
			t.Fatalf("%v without %d, with %d: %v", p, gone, fresh, q)
		}
		p = q
	}
}

// P10.1: Units.

func TestUnits(t *testing.T) {
	for _, p := range rights(6) {
		var want []int
		for unit := range 12 {
			for _, chain := range p.Chains {
				if slices.Contains(chain, unit) {
					want = append(want, unit)
				}
			}
		}
		if units := plan.Units(p); !slices.Equal(units, want) {
			t.Errorf("%v: %v", p, units)
		}
	}
	for _, p := range wrongs() {
		if units := plan.Units(p); len(units) != 0 {
			t.Errorf("%v: %v", p, units)
		}
	}
}

// P10.1: Bytes and Read.

// A known is a plan whose bytes are written out by hand.
type known struct {
	p     plan.Plan
	bytes []byte
}

func knowns() []known {
	return []known{
		{plan.Plan{Chains: [][]int{{0}}}, []byte{0, 1, 1, 0}},
		{plan.Plan{Epoch: 127, Chains: [][]int{{11, 3, 0}}}, []byte{127, 1, 3, 11, 3, 0}},
		{plan.Plan{Epoch: 300, Chains: [][]int{{0, 1}, {2, 3}}}, []byte{0xac, 2, 2, 2, 0, 1, 2, 2, 3}},
		{plan.Plan{Epoch: 1 << 30, Chains: [][]int{{9}, {1, 0}, {11, 10, 8}}}, []byte{0x80, 0x80, 0x80, 0x80, 4, 3, 1, 9, 2, 1, 0, 3, 11, 10, 8}},
		{plan.Plan{Epoch: 1, Chains: [][]int{{8, 7, 6}, {5, 4, 3}, {2, 1, 0}}}, []byte{1, 3, 3, 8, 7, 6, 3, 5, 4, 3, 3, 2, 1, 0}},
	}
}

func TestBytesAndReadOfKnownPlans(t *testing.T) {
	for _, k := range knowns() {
		if b, err := plan.Bytes(k.p); err != nil || !bytes.Equal(b, k.bytes) {
			t.Errorf("%v: % x, %v", k.p, b, err)
		}
		if p, err := plan.Read(k.bytes); err != nil || !alike(p, k.p) {
			t.Errorf("% x: %v, %v", k.bytes, p, err)
		}
	}
}

func TestBytesAndReadOfAllShapes(t *testing.T) {
	for _, epoch := range []int{0, 127, 128, 16383, 16384, 1<<21 - 1, 1 << 21, 1<<28 - 1, 1 << 28, 1<<30 - 1, 1 << 30} {
		for _, p := range rights(epoch) {
			b, err := plan.Bytes(p)
			if err != nil || !bytes.Equal(b, bytesOf(p)) {
				t.Errorf("%v: % x, %v", p, b, err)
			}
			if q, err := plan.Read(b); err != nil || !alike(p, q) {
				t.Errorf("%v, from % x: %v, %v", p, b, q, err)
			}
		}
	}
}

func TestBytesOfWrongPlans(t *testing.T) {
	for _, p := range wrongs() {
		if b, err := plan.Bytes(p); err != api.ErrForm || len(b) != 0 {
			t.Errorf("%v: % x, %v", p, b, err)
		}
	}
}

// reads asks Read what bytes are, and holds it against the words; it tells the error.
func reads(t *testing.T, b []byte) error {
	t.Helper()
	p, err := plan.Read(b)
	want, wantErr := readOf(b)
	if err != wantErr || !alike(p, want) || err != nil && !none(p) {
		t.Fatalf("% x: %v, %v, not %v, %v", b, p, err, want, wantErr)
	}
	if err == nil && !bytes.Equal(bytesOf(p), b) {
		t.Fatalf("% x: %v", b, p)
	}
	return err
}

func TestReadOfKnownErrors(t *testing.T) {
	for _, k := range []struct {
		name  string
		bytes []byte
		err   error
	}{
		{"nothing", nil, api.ErrShort},
		{"an epoch alone", []byte{5}, api.ErrShort},
		{"an epoch that ends", []byte{0x80}, api.ErrShort},
		{"no chains", []byte{5, 0}, api.ErrForm},
		{"a chain short", []byte{5, 2, 1, 0}, api.ErrShort},
		{"a unit short", []byte{5, 1, 2, 0}, api.ErrShort},
		{"the last epoch", append(num(1<<30), 1, 1, 0), nil},
		{"an epoch too far", append(num(1<<30+1), 1, 1, 0), api.ErrRange},
		{"an epoch far too far", append(num(1<<62-1), 1, 1, 0), api.ErrRange},
		{"an epoch beyond numbers", []byte{0xff, 0xff, 0xff, 0xff, 0xff, 0xff, 0xff, 0xff, 0x7f, 1, 1, 0}, api.ErrForm},
		{"an epoch without end", []byte{0xff, 0xff, 0xff, 0xff, 0xff, 0xff, 0xff, 0xff, 0xff, 1, 1, 0}, api.ErrForm},
		{"an epoch of too many bytes", []byte{0x85, 0, 1, 1, 0}, api.ErrForm},
		{"four chains", []byte{5, 4, 1, 0, 1, 1, 1, 2, 1, 3}, api.ErrRange},
		{"a chain of four", []byte{5, 1, 4, 0, 1, 2, 3}, api.ErrRange},
		{"a chain of none", []byte{5, 1, 0}, api.ErrForm},
		{"a chain of none behind one", []byte{5, 2, 1, 0, 0}, api.ErrForm},
		{"unit 12", []byte{5, 1, 1, 12}, api.ErrForm},
		{"unit 13", []byte{5, 1, 1, 13}, api.ErrRange},
		{"unit 12, then bytes too few", []byte{5, 1, 2, 12}, api.ErrShort},
		{"unit 12, then unit 13", []byte{5, 1, 2, 12, 13}, api.ErrRange},
		{"a unit twice", []byte{5, 2, 1, 3, 2, 4, 3}, api.ErrForm},
		{"a unit twice, then bytes too few", []byte{5, 2, 2, 3, 3}, api.ErrShort},
		{"a byte left", []byte{5, 1, 1, 0, 0}, api.ErrForm},
		{"too far, and a byte left", []byte{5, 1, 1, 13, 0}, api.ErrRange},
	} {
		p, err := plan.Read(k.bytes)
		if err != k.err || err != nil && !none(p) {
			t.Errorf("%s: %v, %v", k.name, p, err)
		}
		reads(t, k.bytes)
	}
}

func TestReadOfAllShortBytes(t *testing.T) {
	signs := []byte{0, 1, 2, 3, 4, 11, 12, 13, 0x80, 0xff}
	seen := map[error]int{}
	var longer func(b []byte)
	longer = func(b []byte) {
		seen[reads(t, b)]++
		if len(b) == 6 {
			return
		}
		for _, sign := range signs {
			longer(append(b[:len(b):len(b)], sign))
		}
	}
	longer(nil)
	for _, err := range []error{nil, api.ErrShort, api.ErrForm, api.ErrRange} {
		if seen[err] < 100 {
			t.Errorf("%v: %d", err, seen[err])
		}
	}
}

func TestReadOfChangedBytes(t *testing.T) {
	for _, k := range knowns() {
		for i := range k.bytes {
			reads(t, k.bytes[:i])
			reads(t, slices.Delete(slices.Clone(k.bytes), i, i+1))
			for sign := range 256 {
				b := slices.Clone(k.bytes)
				b[i] = byte(sign)
				reads(t, b)
				reads(t, slices.Insert(slices.Clone(k.bytes), i, byte(sign)))
			}
		}
		for sign := range 256 {
			reads(t, append(slices.Clone(k.bytes), byte(sign)))
		}
	}
}

// P10.1: Same and Copy.

func TestSame(t *testing.T) {
	all := append(wrongs(), rights(0)...)
	all = append(all, sized(1, 0, 1, 2, 2), sized(1<<30, 0, 1, 2, 2),
		plan.Plan{Chains: [][]int{{2, 3}, {0, 1}}}, plan.Plan{Chains: [][]int{{0, 1}, {3, 2}}},
		plan.Plan{Chains: [][]int{{0}, {1, 2, 3}}}, plan.Plan{Chains: [][]int{{0, 1, 2}, {3}}},
		plan.Plan{Chains: [][]int{{0, 1}}}, plan.Plan{Chains: [][]int{{0, 1}, {2}}}, plan.Plan{Chains: [][]int{{0, 1}, {2, 3}, {4}}})
	for _, a := range all {
		for _, b := range all {
			if want := right(a) && right(b) && alike(a, b); plan.Same(a, b) != want || plan.Same(a, plan.Copy(b)) != want {
				t.Errorf("%v, %v: %v", a, b, !want)
			}
		}
	}
}

func TestSameOfOneUnitChanged(t *testing.T) {
	for _, p := range rights(8) {
		for c := range p.Chains {
			for i := range p.Chains[c] {
				for unit := range 12 {
					q := plan.Copy(p)
					q.Chains[c][i] = unit
					want := unit == p.Chains[c][i]
					if plan.Same(p, q) != want || plan.Same(q, p) != want {
						t.Errorf("%v, %v: %v", p, q, !want)
					}
				}
			}
		}
	}
}

func TestCopy(t *testing.T) {
	for _, p := range append(rights(5), wrongs()...) {
		if q := plan.Copy(p); !alike(p, q) {
			t.Errorf("%v: %v", p, q)
		}
	}
	few(func(p plan.Plan) {
		if q := plan.Copy(p); !alike(p, q) {
			t.Fatalf("%v: %v", p, q)
		}
	})
}

// What is handed in, and what is answered.

// windows is a plan whose chains lie side by side in one array, with room behind them, and that array.
func windows(epoch int, chains ...[]int) (plan.Plan, []int) {
	under := slices.Concat(chains...)
	under = append(under, 77, 77, 77, 77)
	p := plan.Plan{Epoch: epoch, Chains: make([][]int, 0, 8)}
	at := 0
	for _, chain := range chains {
		p.Chains = append(p.Chains, under[at:at+len(chain)])
		at += len(chain)
	}
	return p, under
}

// overwrite overwrites all that a list reaches.
func overwrite(list []int) {
	list = list[:cap(list)]
	for i := range list {
		list[i] = -99
	}
}

// spoil overwrites all that a plan's lists reach.
func spoil(p plan.Plan) {
	for _, chain := range p.Chains {
		overwrite(chain)
	}
	clear(p.Chains[:cap(p.Chains)])
}

// made is a call that answers a plan, of one that is handed in.
type made struct {
	name string
	call func(p plan.Plan) plan.Plan
}

func makers() []made {
	return []made{
		{"Copy", plan.Copy},
		{"Replace, nothing gone", func(p plan.Plan) plan.Plan { q, _ := plan.Replace(p, nil, -1); return q }},
		{"Replace, gone", func(p plan.Plan) plan.Plan { q, _ := plan.Replace(p, []int{0, 4}, -1); return q }},
		{"Replace, fresh", func(p plan.Plan) plan.Plan { q, _ := plan.Replace(p, nil, 9); return q }},
		{"Replace, gone and fresh", func(p plan.Plan) plan.Plan { q, _ := plan.Replace(p, []int{0, 4}, 9); return q }},
		{"Replace, fresh at the end", func(p plan.Plan) plan.Plan { q, _ := plan.Replace(p, []int{6}, 9); return q }},
		{"Read", func(p plan.Plan) plan.Plan { b, _ := plan.Bytes(p); q, _ := plan.Read(b); return q }},
	}
}

func TestPlansAreApart(t *testing.T) {
	chains := [][]int{{0, 1}, {3, 4, 5}, {6, 7}}
	for _, m := range makers() {
		p, under := windows(3, chains...)
		before, array := plan.Copy(p), slices.Clone(under)
		q := m.call(p)
		if !alike(p, before) || !slices.Equal(under, array) {
			t.Errorf("%s changed what was handed in: %v, %v", m.name, p, under)
		}
		want := plan.Copy(q)
		spoil(p)
		if none(q) || !alike(q, want) {
			t.Errorf("%s: %v, behind a change of what was handed in %v", m.name, want, q)
		}
		p, under = windows(3, chains...)
		q = m.call(p)
		spoil(q)
		if !alike(p, before) || !slices.Equal(under, array) {
			t.Errorf("%s: a change of the answer shows: %v, %v", m.name, p, under)
		}
		q = m.call(p)
		for c := range q.Chains {
			rest := plan.Copy(q)
			overwrite(q.Chains[c])
			rest.Chains[c] = q.Chains[c]
			if !alike(q, rest) {
				t.Errorf("%s: a change of chain %d shows in others: %v", m.name, c, q)
			}
		}
	}
}

func TestNothingElseIsChangedOrKept(t *testing.T) {
	p, under := windows(3, []int{4, 1}, []int{3, 0, 5})
	array := slices.Clone(under)
	gone, tails := []int{3, 1, 3, 77}, []int{-1, 5000, 7}
	b := bytesOf(p)
	for range 2 {
		if _, err := plan.Replace(p, gone, 9); err != nil || !slices.Equal(gone, []int{3, 1, 3, 77}) {
			t.Errorf("Replace: %v, %v", gone, err)
		}
		if plan.Tail(p, tails); !slices.Equal(tails, []int{-1, 5000, 7}) {
			t.Errorf("Tail: %v", tails)
		}
		units := plan.Units(p)
		if !slices.Equal(units, []int{0, 1, 3, 4, 5}) {
			t.Errorf("Units: %v", units)
		}
		overwrite(units)
		written, err := plan.Bytes(p)
		if err != nil || !bytes.Equal(written, b) {
			t.Errorf("Bytes: % x, %v", written, err)
		}
		clear(written[:cap(written)])
		read, err := plan.Read(b)
		if err != nil || !alike(read, p) || !bytes.Equal(b, bytesOf(p)) {
			t.Errorf("Read: %v, %v, of % x", read, err, b)
		}
		spoil(read)
		plan.Right(p)
		plan.Same(p, p)
		plan.Place(p, 3)
		plan.Address(p, 1, 3)
	}
	if !slices.Equal(under, array) {
		t.Errorf("the plan has become %v", under)
	}
	one := plan.Plan{Chains: [][]int{{7, 2, 4}}}
	if units := plan.Units(one); !slices.Equal(units, []int{2, 4, 7}) || !slices.Equal(one.Chains[0], []int{7, 2, 4}) {
		t.Errorf("Units of one chain: %v, of %v", units, one)
	}
	overwrite(plan.Units(one))
	if !slices.Equal(one.Chains[0], []int{7, 2, 4}) {
		t.Errorf("a change of Units shows: %v", one)
	}
}
