package shared_test

import (
	"slices"
	"testing"

	"tidewater/api"
	"tidewater/chain"
	"tidewater/page"
	"tidewater/plan"
	"tidewater/shared"
	"tidewater/token"
)

// long is a scene of ten addresses by a plan: pages, but junk at 3 and 7, and nothing at 4 and 9.
func long(t *testing.T, p plan.Plan) *scene {
	t.Helper()
	c := newScene(t, p, 9, 2)
	one := pageOf(t, 1)
	c.lays(t, one, one, pageOf(t, 0, 5), page.Junk(), nil, one, pageOf(t, 0, 3, 2), page.Junk(), one, nil)
	return c
}

// written is the addresses below an end that have something by a plan, on its first copies.
func (c *scene) written(t *testing.T, end int) []int {
	t.Helper()
	var all []int
	for a := range end {
		n, own, err := plan.Place(c.p, a)
		must(t, err)
		if c.all[c.p.Chains[n][0]].Has(own) {
			all = append(all, a)
		}
	}
	return all
}

// P17.1: Begin.

func TestBegin(t *testing.T) {
	for _, p := range shapes(1) {
		for to := range 11 {
			c := long(t, p)
			must(t, chain.Trim(c.all, p, to))
			before := c.twin(t)
			if n, err := c.log().Begin(); n != to || err != nil {
				t.Errorf("by %v, trimmed to %d, it begins at %d, %v", p, to, n, err)
			}
			// Nothing is filled.
			if wrong := c.differs(before); wrong != "" {
				t.Errorf("by %v: %s", p, wrong)
			}
		}
	}
}

// What is beyond the tail isn't asked.
func TestBeginBelowTail(t *testing.T) {
	for tail := range 11 {
		c := long(t, by(1, []int{0}, []int{1, 2}))
		must(t, chain.Trim(c.all, c.p, 6))
		c.s = sequencer(t, 1, tail)
		if n, err := c.log().Begin(); n != min(tail, 6) || err != nil {
			t.Errorf("of tail %d it begins at %d, %v", tail, n, err)
		}
	}
}

// A Trim that stopped on its way: the uppermost address that is trimmed tells.
func TestBeginOfSomeTrimmed(t *testing.T) {
	p := by(1, []int{0, 1}, []int{2, 3}, []int{4})
	for _, k := range []struct {
		trims map[int]int // own addresses by unit
		begin int
	}{
		{nil, 0},
		{map[int]int{1: 2}, 4},              // addresses 0 and 3
		{map[int]int{0: 2}, 0},              // the last copy has them
		{map[int]int{1: 1, 3: 1, 4: 1}, 3},  // 0 to 2
		{map[int]int{1: 1, 3: 3}, 8},        // 0, and 1, 4, 7
		{map[int]int{4: 1}, 3},              // 2
		{map[int]int{4: 3}, 9},              // 2, 5, 8
		{map[int]int{4: 9}, 9},              // 2, 5, 8: the tail is 10
		{map[int]int{0: 4, 1: 4}, 10},       // 0, 3, 6, 9
		{map[int]int{0: 4}, 10},             // 9, which the last copy doesn't have
		{map[int]int{2: 2, 3: 1, 4: 2}, 6},  // 4, which the last copy doesn't have, and 5
		{map[int]int{2: 2, 3: 1, 4: 1}, 5},  // 4
		{map[int]int{2: 4, 3: 1, 4: 0}, 5},  // 4
		{map[int]int{1: 1366, 3: 1365}, 10}, // all of theirs
	} {
		c := long(t, p)
		for number, to := range k.trims {
			must(t, c.all[number].Trim(1, to))
		}
		if n, err := c.log().Begin(); n != k.begin || err != nil {
			t.Errorf("trimmed to %v, it begins at %d, %v, not %d", k.trims, n, err, k.begin)
		}
	}
}

func TestBeginOfEnds(t *testing.T) {
	for _, p := range shapes(0) {
		for _, to := range []int{0, 1, 2, 3, 4, 4093, 4094, 4095, 4096} {
			c := newScene(t, p, 9, 1)
			c.s = sequencer(t, 0, 4096)
			must(t, chain.Trim(c.all, p, to))
			if n, err := c.log().Begin(); n != to || err != nil {
				t.Errorf("by %v, trimmed to %d, it begins at %d, %v", p, to, n, err)
			}
		}
	}
}

// The log that is read is the one that has been trimmed: what is half written there is written to all.
func TestBeginReads(t *testing.T) {
	p := by(0, []int{0, 1, 2})
	c := newScene(t, p, 3, 1)
	for a := range 4 {
		must(t, chain.Step(c.all, p, a, 0, pageOf(t, 1)))
	}
	must(t, c.all[2].Trim(0, 2))
	c.s = sequencer(t, 0, 4)
	if n, err := c.log().Begin(); n != 2 || err != nil {
		t.Errorf("it begins at %d, %v", n, err)
	}
	for a := range 4 {
		if has := c.all[1].Has(a); has != (a > 1) {
			t.Errorf("unit 1 has address %d: %v", a, has)
		}
	}
}

func TestBeginFails(t *testing.T) {
	p := by(1, []int{0, 1}, []int{2})
	for _, k := range []struct {
		name  string
		do    func(c *scene)
		begin int
		err   error
	}{
		{"all is well", func(*scene) {}, 0, nil},
		{"the sequencer is lost", func(c *scene) { c.s = nil }, 0, api.ErrDown},
		{"the sequencer is an elder one", func(c *scene) { c.s = sequencer(t, 0, 10) }, 0, api.ErrSealed},
		{"the sequencer is a later one", func(c *scene) { c.s = sequencer(t, 2, 0) }, 0, api.ErrSealed},
		{"it is lost, all is sealed", func(c *scene) {
			c.s = nil
			c.seal(t, 2, 0, 1, 2)
		}, 0, api.ErrDown},
		{"nothing was told, all is sealed", func(c *scene) {
			c.s = sequencer(t, 1, 0)
			c.seal(t, 2, 0, 1, 2)
		}, 0, nil},
		{"nothing was told, the plan isn't right", func(c *scene) { c.s, c.p = sequencer(t, 1, 0), by(1) }, 0, nil},
		{"the plan isn't right", func(c *scene) { c.p = by(1, []int{0, 0}) }, 0, api.ErrForm},
		{"a last copy is down", func(c *scene) { c.up[1] = false }, 0, api.ErrDown},
		{"a last copy is sealed", func(c *scene) { c.seal(t, 2, 1) }, 0, api.ErrSealed},
		{"a first copy is down that an address wants", func(c *scene) { c.up[0] = false }, 0, api.ErrDown},
		{"a first copy is down that none wants", func(c *scene) {
			c.up[0] = false
			c.s = sequencer(t, 1, 4)
		}, 0, nil},
		{"a first copy is sealed that none wants", func(c *scene) {
			c.seal(t, 2, 0)
			c.s = sequencer(t, 1, 4)
		}, 0, nil},
		{"it fails below what is trimmed", func(c *scene) {
			must(t, c.all[2].Trim(1, 5))
			c.up[1] = false
		}, 10, nil},
		{"it fails above what is trimmed", func(c *scene) {
			must(t, c.all[2].Trim(1, 5))
			c.s = sequencer(t, 1, 11)
			c.up[1] = false
		}, 0, api.ErrDown},
		{"copies don't agree", func(c *scene) {
			q := by(1, []int{0, 3, 1}, []int{2})
			must(t, chain.Step(c.all, q, 4, 0, pageOf(t, 1)))
			must(t, chain.Step(c.all, q, 4, 1, page.Junk()))
			c.p = q
		}, 0, api.ErrState},
		{"a copy's device is down", func(c *scene) {
			must(t, chain.Step(c.all, p, 4, 0, pageOf(t, 1)))
			c.ds[1].Stop(0)
		}, 0, api.ErrDown},
		{"a copy has no room", func(c *scene) {
			must(t, chain.Step(c.all, p, 4, 0, pageOf(t, 1)))
			choke(t, c.all[1])
		}, 0, api.ErrFull},
	} {
		c := newScene(t, p, 4, 1)
		one := pageOf(t, 1)
		c.lays(t, one, one, one, one, nil, one, one, one, one, one)
		k.do(c)
		if n, err := c.log().Begin(); n != k.begin || err != k.err {
			t.Errorf("%s: it begins at %d, %v, not %d, %v", k.name, n, err, k.begin, k.err)
		}
	}
}

// P17.1: Trim.

func TestTrim(t *testing.T) {
	for _, p := range shapes(1) {
		for to := range 11 {
			c := long(t, p)
			l := c.log()
			must(t, l.Trim(to))
			for a := range 10 {
				if got, err := l.Page(a); (err == api.ErrTrimmed) != (a < to) || a < to && !like(got, shared.Page{}) || a >= to && err != nil {
					t.Errorf("by %v, trimmed to %d, at %d there is %v, %v", p, to, a, got, err)
				}
			}
			if n, err := l.Begin(); n != to || err != nil {
				t.Errorf("by %v, trimmed to %d, it begins at %d, %v", p, to, n, err)
			}
			// What is gone stays so.
			must(t, l.Trim(to/2))
			must(t, l.Trim(0))
			if n, err := l.Begin(); n != to || err != nil {
				t.Errorf("by %v, trimmed to %d and to less, it begins at %d, %v", p, to, n, err)
			}
			if n, err := l.Tail(); n != 10 || err != nil {
				t.Errorf("by %v, trimmed to %d, the tail is %d, %v", p, to, n, err)
			}
		}
	}
}

func TestTrimOfWrongEnds(t *testing.T) {
	for tail := range 11 {
		c := long(t, by(1, []int{0}, []int{1, 2}))
		c.s = sequencer(t, 1, tail)
		before := c.twin(t)
		for _, to := range append(odd(), tail+1, tail+2, 4095, 4096, 4097) {
			if err := c.log().Trim(to); err != api.ErrRange {
				t.Errorf("of tail %d Trim(%d) answers %v", tail, to, err)
			}
		}
		if wrong := c.differs(before); wrong != "" {
			t.Errorf("of tail %d: %s", tail, wrong)
		}
		must(t, c.log().Trim(tail))
		if n, err := c.log().Begin(); n != tail || err != nil {
			t.Errorf("of tail %d it begins at %d, %v", tail, n, err)
		}
	}
}

// noSequencers is sequencers by which nothing is done by a plan of epoch 1, and the error of that.
func noSequencers(t *testing.T) ([]*token.Sequencer, []error) {
	t.Helper()
	return []*token.Sequencer{nil, sequencer(t, 0, 10), sequencer(t, 2, 10), sequencer(t, 1<<30, 4096)}, []error{api.ErrDown, api.ErrSealed, api.ErrSealed, api.ErrSealed}
}

func TestTrimFails(t *testing.T) {
	p := by(1, []int{0, 1}, []int{2})
	all, errs := noSequencers(t)
	for i, s := range all {
		for _, to := range append(odd(), 0, 5, 10, 11, 4097) {
			for _, right := range []bool{true, false} {
				c := long(t, p)
				c.s, c.up[0] = s, right
				if !right {
					c.p = by(1, []int{0, 0})
				}
				if err := c.log().Trim(to); err != errs[i] {
					t.Errorf("Trim(%d) answers %v, not %v", to, err, errs[i])
				}
				if c.all[0].Trimmed()+c.all[1].Trimmed()+c.all[2].Trimmed() != 0 {
					t.Errorf("Trim(%d) has trimmed", to)
				}
			}
		}
	}
	for _, k := range []struct {
		name    string
		do      func(c *scene)
		to      int
		err     error
		trimmed []int
	}{
		{"all is well", func(*scene) {}, 5, nil, []int{3, 3, 2}},
		{"the plan isn't right", func(c *scene) { c.p = by(1, []int{0, 0}) }, 5, api.ErrForm, []int{0, 0, 0}},
		{"nor is the end", func(c *scene) { c.p = by(1, []int{0, 0}) }, 11, api.ErrRange, []int{0, 0, 0}},
		{"nor is the end, which is below", func(c *scene) { c.p = by(1, []int{0, 0}) }, -1, api.ErrRange, []int{0, 0, 0}},
		{"the first unit is down", func(c *scene) { c.up[0] = false }, 5, api.ErrDown, []int{0, 0, 0}},
		{"a middle unit is down", func(c *scene) { c.up[1] = false }, 5, api.ErrDown, []int{3, 0, 0}},
		{"the last unit is down", func(c *scene) { c.up[2] = false }, 5, api.ErrDown, []int{3, 3, 0}},
		{"it is down, nothing is to go", func(c *scene) { c.up[2] = false }, 0, api.ErrDown, []int{0, 0, 0}},
		{"a unit is sealed", func(c *scene) { c.seal(t, 2, 1) }, 5, api.ErrSealed, []int{3, 0, 0}},
		{"a unit has no room", func(c *scene) { choke(t, c.all[1]) }, 5, api.ErrFull, []int{3, 0, 0}},
		{"a unit's device is down", func(c *scene) { c.ds[2].Stop(0) }, 5, api.ErrDown, []int{3, 3, 0}},
	} {
		c := long(t, p)
		k.do(c)
		if err := c.log().Trim(k.to); err != k.err {
			t.Errorf("%s: %v, not %v", k.name, err, k.err)
		}
		if got := []int{c.all[0].Trimmed(), c.all[1].Trimmed(), c.all[2].Trimmed()}; !slices.Equal(got, k.trimmed) {
			t.Errorf("%s: units are trimmed to %v, not %v", k.name, got, k.trimmed)
		}
	}
}

// P17.1: Pages.

func TestPages(t *testing.T) {
	has := []int{0, 1, 2, 5, 6, 8}
	for _, p := range shapes(1) {
		for from := range 14 {
			for to := -2; to <= 10; to++ {
				c := long(t, p)
				got, err := c.log().Pages(from, to)
				if err != nil {
					t.Fatalf("by %v Pages(%d, %d) answers %v", p, from, to, err)
				}
				var want []int
				for _, a := range has {
					if from <= a && a < to {
						want = append(want, a)
					}
				}
				c.arePages(t, got, want)
				// Of what has nothing just what lies between is filled.
				filled := []int{0, 1, 2, 3, 5, 6, 7, 8}
				for _, a := range []int{4, 9} {
					if from <= a && a < to {
						filled = append(filled, a)
					}
				}
				slices.Sort(filled)
				if now := c.written(t, 20); !slices.Equal(now, filled) {
					t.Errorf("by %v behind Pages(%d, %d) there is something at %v, not %v", p, from, to, now, filled)
				}
			}
		}
	}
}

// arePages holds pages against those that stand at addresses.
func (c *scene) arePages(t *testing.T, got []shared.Page, addresses []int) {
	t.Helper()
	if len(got) != len(addresses) {
		t.Fatalf("there are %d pages, not those at %v", len(got), addresses)
	}
	for i, a := range addresses {
		want, err := c.twin(t).page(a)
		must(t, err)
		if want.Junk || !like(got[i], want) {
			t.Errorf("there is %v, not %v", got[i], want)
		}
	}
}

func TestPagesOfTrimmed(t *testing.T) {
	has := []int{0, 1, 2, 5, 6, 8}
	for _, p := range shapes(1) {
		for to := range 11 {
			c := long(t, p)
			must(t, c.log().Trim(to))
			got, err := c.log().Pages(0, 10)
			must(t, err)
			below, _ := slices.BinarySearch(has, to)
			c.arePages(t, got, has[below:])
		}
	}
	// Also in the midst of others.
	p := by(1, []int{0}, []int{1}, []int{2})
	c := long(t, p)
	must(t, c.all[2].Trim(1, 2))
	got, err := c.log().Pages(0, 10)
	must(t, err)
	c.arePages(t, got, []int{0, 1, 6, 8})
}

func TestPagesOfWrongBounds(t *testing.T) {
	c := long(t, by(1, []int{0}, []int{1, 2}))
	before := c.twin(t)
	for _, from := range append(odd(), 0, 9, 10, 11) {
		for _, to := range append(odd(), 0, 1, 9, 10, 11) {
			got, err := c.log().Pages(from, to)
			if wrong := from < 0 || to > 10; wrong && (err != api.ErrRange || got != nil) || !wrong && err != nil {
				t.Errorf("Pages(%d, %d) answers %v, %v", from, to, got, err)
			}
			// The rest is from on or above to, or has pages; of all that 4 and 9 have nothing.
			if from == 0 && to > 4 && to <= 10 || from == 9 && to == 10 {
				c = before.twin(t)
			}
			if wrong := c.differs(before); wrong != "" {
				t.Fatalf("behind Pages(%d, %d): %s", from, to, wrong)
			}
		}
	}
	for _, from := range []int{-1, -2} {
		for _, to := range []int{-5, from, 0, 5, 10, 11} {
			if got, err := c.log().Pages(from, to); err != api.ErrRange || got != nil {
				t.Errorf("Pages(%d, %d) answers %v, %v", from, to, got, err)
			}
		}
	}
}

func TestPagesFails(t *testing.T) {
	p := by(1, []int{0, 1}, []int{2})
	all, errs := noSequencers(t)
	for i, s := range all {
		for _, from := range append(odd(), 0, 5, 10) {
			for _, to := range append(odd(), 0, 5, 10, 11) {
				c := newScene(t, p, 0, 1)
				c.s = s
				if got, err := c.log().Pages(from, to); got != nil || err != errs[i] {
					t.Errorf("Pages(%d, %d) answers %v, %v, not %v", from, to, got, err, errs[i])
				}
			}
		}
	}
	for _, k := range []struct {
		name     string
		do       func(c *scene)
		from, to int
		err      error
		filled   []int // of 4 and 9, which have nothing, and stand on chain 0 and 1
	}{
		{"all is well", func(*scene) {}, 0, 10, nil, []int{4, 9}},
		{"the plan isn't right", func(c *scene) { c.p = by(1, []int{0, 0}) }, 0, 10, api.ErrForm, nil},
		{"the plan isn't right, nothing is asked", func(c *scene) { c.p = by(1) }, 10, 10, nil, nil},
		{"nor are the bounds", func(c *scene) { c.p = by(1) }, 0, 11, api.ErrRange, nil},
		{"a last copy is down", func(c *scene) { c.up[1] = false }, 3, 10, api.ErrDown, nil},
		{"a first copy is down", func(c *scene) { c.up[0] = false }, 3, 10, api.ErrDown, nil},
		{"a first copy is down that none wants", func(c *scene) { c.up[0] = false }, 5, 10, nil, []int{9}},
		{"another last copy is down", func(c *scene) { c.up[2] = false }, 4, 10, api.ErrDown, []int{4}},
		{"another one that none wants is down", func(c *scene) { c.up[2] = false }, 4, 5, nil, []int{4}},
		{"a unit is sealed", func(c *scene) { c.seal(t, 2, 1) }, 0, 10, api.ErrSealed, nil},
		{"another unit is sealed", func(c *scene) { c.seal(t, 2, 2) }, 4, 10, api.ErrSealed, []int{4}},
		{"a unit has no room", func(c *scene) { choke(t, c.all[2]) }, 0, 10, api.ErrFull, []int{4}},
		{"a unit's device is down", func(c *scene) { c.ds[0].Stop(0) }, 0, 10, api.ErrDown, nil},
		{"a last copy has junk alone", func(c *scene) { must(t, chain.Step(c.all, p, 4, 1, page.Junk())) }, 0, 10, nil, []int{9}},
	} {
		c := long(t, p)
		k.do(c)
		got, err := c.log().Pages(k.from, k.to)
		if err != k.err || err != nil && got != nil {
			t.Errorf("%s: %v, %v, not %v", k.name, got, err, k.err)
		}
		c.p = p
		var filled []int
		for _, a := range c.written(t, 20) {
			if a == 4 || a == 9 {
				filled = append(filled, a)
			}
		}
		if !slices.Equal(filled, k.filled) {
			t.Errorf("%s: filled are %v, not %v", k.name, filled, k.filled)
		}
	}
}

func TestPagesOfNone(t *testing.T) {
	for _, p := range shapes(0) {
		c := newScene(t, p, 9, 1)
		for from := range 3 {
			if got, err := c.log().Pages(from, 0); len(got) != 0 || err != nil {
				t.Errorf("by %v from %d on there is %v, %v", p, from, got, err)
			}
		}
	}
}

// A log up to its last address.
func TestLastAddresses(t *testing.T) {
	for _, p := range shapes(0) {
		c := newScene(t, p, 9, 1)
		c.s = sequencer(t, 0, 4094)
		l := c.log()
		must(t, l.Trim(4093))
		for a := 4094; a < 4096; a++ {
			if at, err := l.Append(merge()); at != a || err != nil {
				t.Fatalf("Append answers %d, %v", at, err)
			}
		}
		if at, err := l.Append(merge()); at != 0 || err != api.ErrFull {
			t.Errorf("Append answers %d, %v", at, err)
		}
		got, err := l.Pages(0, 4096)
		must(t, err)
		c.arePages(t, got, []int{4094, 4095})
		must(t, l.Trim(4096))
		if n, err := l.Begin(); n != 4096 || err != nil {
			t.Errorf("it begins at %d, %v", n, err)
		}
	}
}
