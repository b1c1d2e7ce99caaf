package recon_test

import (
	"slices"
	"strconv"
	"testing"

	"tidewater/api"
	"tidewater/book"
	"tidewater/chain"
	"tidewater/plan"
	"tidewater/recon"
)

// P16.1: the chapter's example, and its constants.

func TestExample(t *testing.T) {
	p := by(0, []int{0})
	c := newScene(t, p, 1, 1)
	r, err := recon.New(p, nil, -1, 0)
	must(t, err)
	for i, want := range []int{recon.Copying, recon.Deciding, recon.Beginning, recon.Done, recon.Done} {
		if r.Sequencer() != nil && i < 4 || r.Err() != nil {
			t.Errorf("ahead of step %d there is a sequencer, or %v", i, r.Err())
		}
		if got := r.Step(c.all, c.b); got != want || r.State() != want {
			t.Errorf("step %d: %d, %d, not %d", i, got, r.State(), want)
		}
	}
	if n, err := r.Sequencer().Next(1); n != 0 || err != nil || r.Sequencer().Backs() != nil {
		t.Errorf("the sequencer answers %d, %v", n, err)
	}
}

func TestConstants(t *testing.T) {
	if got := []int{recon.Sealing, recon.Copying, recon.Deciding, recon.Beginning, recon.Done, recon.Failed}; !slices.Equal(got, []int{1, 2, 3, 4, 5, 6}) {
		t.Errorf("they are %v", got)
	}
}

// P16.1: New.

func TestNew(t *testing.T) {
	p := by(7, []int{0, 1}, []int{2})
	for _, k := range []struct {
		gone   []int
		fresh  int
		ballot int
		next   plan.Plan
	}{
		{nil, -1, 0, by(8, []int{0, 1}, []int{2})},
		{[]int{}, -1 << 62, 1 << 62, by(8, []int{0, 1}, []int{2})},
		{nil, 3, 1, by(8, []int{0, 1}, []int{2, 3})},
		{[]int{0}, 11, 5, by(8, []int{1, 11}, []int{2})},
		{[]int{1, 9, -4, 1}, 11, 5, by(8, []int{0, 11}, []int{2})},
		{[]int{9}, 9, 5, by(8, []int{0, 1}, []int{2, 9})},
	} {
		r, err := recon.New(p, k.gone, k.fresh, k.ballot)
		must(t, err)
		if r.State() != recon.Sealing || r.Err() != nil || r.Sequencer() != nil || !plan.Same(r.Next(), k.next) {
			t.Errorf("without %v, with %d: %d, %v, %v", k.gone, k.fresh, r.State(), r.Err(), r.Next())
		}
	}
}

func TestWrongWays(t *testing.T) {
	p := by(7, []int{0, 1}, []int{2})
	full := by(7, []int{0, 1, 2}, []int{3, 4, 5})
	for _, k := range []struct {
		p     plan.Plan
		gone  []int
		fresh int
		err   error // by a right ballot; nil, if it is right
	}{
		{plan.Plan{}, nil, -1, api.ErrForm},
		{by(7, []int{0, 0}), nil, -1, api.ErrForm},
		{by(-1, []int{0}), nil, -1, api.ErrForm},
		{by(1<<30, []int{0}), nil, -1, api.ErrEpoch},
		{by(1<<30, []int{0}), []int{0}, 0, api.ErrEpoch},
		{p, []int{2}, -1, api.ErrNone},
		{p, []int{2}, 12, api.ErrNone},
		{p, []int{0, 1}, 3, api.ErrNone},
		{p, nil, 12, api.ErrRange},
		{p, nil, 1 << 62, api.ErrRange},
		{p, nil, 2, api.ErrState},
		{p, []int{1}, 1, api.ErrState},
		{full, nil, 6, api.ErrFull},
		{p, nil, 3, nil},
		{p, []int{1}, -1, nil},
		{full, []int{5}, 6, nil},
	} {
		for _, ballot := range append(odd(), 0, 1, 9) {
			want := k.err
			if want == nil && ballot < 0 {
				want = api.ErrForm
			}
			r, err := recon.New(k.p, k.gone, k.fresh, ballot)
			if err != want || (r == nil) != (want != nil) {
				t.Errorf("of %v without %v, with %d, by ballot %d: %v, not %v", k.p, k.gone, k.fresh, ballot, err, want)
			}
		}
	}
}

// P16.1: one way, step by step, as it is written out by hand.

// ahead is the plan of that way.
func ahead() plan.Plan { return by(3, []int{0, 1}, []int{2, 3}) }

// behind is its next plan.
func behind() plan.Plan { return by(4, []int{0, 4}, []int{2, 3}) }

// known is that way, and what it works on. Unit 0 has pages at 0 and 2, unit 2 at 0 and 1, unit 3 had one at 0 and is trimmed up to 1. (Units 1 and 5 aren't the next plan's.)
func known(t *testing.T) (*scene, *recon.Recon) {
	t.Helper()
	c := newScene(t, ahead(), 6, 1)
	for _, u := range c.all[:4] {
		_, err := u.Seal(3)
		must(t, err)
	}
	c.put(t, 0, pageOf(t, 1), 0, 1)
	c.put(t, 2, pageOf(t, 0, 2), 0, 1)
	c.put(t, 0, pageOf(t, 3), 2, 3)
	c.put(t, 1, pageOf(t, 0, 4, 5), 2)
	must(t, c.all[3].Trim(3, 1))
	r, err := recon.New(ahead(), []int{1}, 4, 9)
	must(t, err)
	return c, r
}

// A deed is one of its steps: the state behind it, which units have to be up, which ones are asked by the epoch, and which ones' devices are written.
type deed struct {
	state             int
	up, asked, writes []int
}

// deeds is all its steps.
func deeds() []deed {
	return []deed{
		{recon.Sealing, []int{0}, []int{0}, []int{0}},
		{recon.Sealing, []int{2}, []int{2}, []int{2}},
		{recon.Sealing, []int{3}, []int{3}, []int{3}},
		{recon.Copying, []int{4}, []int{4}, []int{4}},
		{recon.Copying, []int{0, 4}, []int{0}, nil},          // trims 0
		{recon.Copying, []int{0, 4}, []int{4}, nil},          // trims 4
		{recon.Copying, []int{0, 4}, []int{0, 4}, []int{4}},  // own address 0
		{recon.Copying, []int{0}, []int{0}, nil},             // there is nothing
		{recon.Copying, []int{0, 4}, []int{0, 4}, []int{4}},  // own address 2
		{recon.Copying, []int{2, 3}, []int{2}, []int{2}},     // trims 2
		{recon.Copying, []int{2, 3}, []int{3}, nil},          // trims 3
		{recon.Deciding, []int{2, 3}, []int{2, 3}, []int{3}}, // own address 1
		{recon.Beginning, nil, nil, nil},
		{recon.Done, []int{0, 2, 3, 4}, []int{0, 3, 4}, nil},
	}
}

// left is what units have behind so many of its steps: of each unit its epoch, how far it is trimmed, and the own addresses that have pages.
func left(steps int) [][]int {
	all := [][]int{{3, 0, 0, 2}, {3, 0, 0, 2}, {3, 0, 0, 1}, {3, 1}, {0, 0}, {0, 0}}
	for i := range steps {
		switch i {
		case 0:
			all[0][0] = 4
		case 1:
			all[2][0] = 4
		case 2:
			all[3][0] = 4
		case 3:
			all[4][0] = 4
		case 6:
			all[4] = []int{4, 0, 0}
		case 8:
			all[4] = []int{4, 0, 0, 2}
		case 9:
			all[2] = []int{4, 1, 1}
		case 11:
			all[3] = []int{4, 1, 1}
		}
	}
	return all
}

// holds holds what units have against what is known.
func (c *scene) holds(t *testing.T, name string, all [][]int) {
	t.Helper()
	for i, want := range all {
		u := c.all[i]
		got := []int{u.Epoch(), u.Trimmed()}
		for at := range 4 {
			if u.Has(at) {
				got = append(got, at)
			}
		}
		if !slices.Equal(got, want) {
			t.Errorf("%s: unit %d has (epoch, trimmed, pages) %v, not %v", name, i, got, want)
		}
	}
}

func TestKnownWay(t *testing.T) {
	c, r := known(t)
	c.holds(t, "at first", left(0))
	for i, d := range deeds() {
		if r.Sequencer() != nil {
			t.Errorf("ahead of step %d there is a sequencer", i)
		}
		if n := r.Step(c.all, c.b); n != d.state || r.State() != d.state || r.Err() != nil || !plan.Same(r.Next(), behind()) {
			t.Errorf("step %d: %d, %d, %v, %v", i, n, r.State(), r.Err(), r.Next())
		}
		c.holds(t, "behind step "+strconv.Itoa(i), left(i+1))
		if known := c.b.Known(); known != 1+i/12 {
			t.Errorf("behind step %d the book knows %d plans", i, known)
		}
	}
	if !plan.Same(c.b.Latest(), behind()) {
		t.Errorf("the book has %v", c.b.Latest())
	}
	for _, u := range []int{0, 2} {
		for at := range 3 {
			a, _ := c.all[u].Read(4, at)
			if b, _ := c.all[[]int{4, 0, 3}[u]].Read(4, at); string(a) != string(b) {
				t.Errorf("at %d unit %d has %x, another one %x", at, u, a, b)
			}
		}
	}
	// Address 3 is own address 1 of units 2 and 3, and address 4 own address 2 of units 0 and 4.
	s := r.Sequencer()
	if n, err := s.Next(4); n != 5 || err != nil || s.Epoch() != 4 {
		t.Errorf("the next address is %d, %v", n, err)
	}
	for stream, want := range [][]int{{4, 3}, {0}, {4}, nil, {3}, {3}, nil, nil, nil, nil, nil, nil, nil} {
		if list, err := s.Newest(4, stream); err != nil || !slices.Equal(list, want) {
			t.Errorf("of stream %d: %v, %v", stream, list, err)
		}
	}
	if r.Sequencer() != s {
		t.Error("the sequencer is another one")
	}
}

// P16.1: which units a step needs, and what else keeps it from being done.

// A fault is what befalls a unit, the steps that it keeps from being done, and their error.
type fault struct {
	name string
	do   func(t *testing.T, c *scene, i int)
	err  error
	hits func(d deed) []int
}

// faults is those that may befall any unit at any step.
func faults() []fault {
	return []fault{
		{"is down", func(_ *testing.T, c *scene, i int) { c.up[i] = false }, api.ErrDown, func(d deed) []int { return d.up }},
		{"is sealed", func(t *testing.T, c *scene, i int) {
			_, err := c.all[i].Seal(5)
			must(t, err)
		}, api.ErrSealed, func(d deed) []int { return d.asked }},
		{"has a device that is down", func(_ *testing.T, c *scene, i int) { c.ds[i].Stop(0) }, api.ErrDown, func(d deed) []int { return d.writes }},
		{"has a device that goes down", func(_ *testing.T, c *scene, i int) { c.ds[i].Stop(1) }, api.ErrDown, func(d deed) []int { return d.writes }},
	}
}

func TestFaults(t *testing.T) {
	for _, f := range faults() {
		for i := range 6 {
			for from := range len(deeds()) + 1 {
				f.befalls(t, i, from)
			}
		}
	}
}

// befalls lets a fault befall a unit ahead of a step: all goes well up to the next one that is kept from being done.
func (f fault) befalls(t *testing.T, i, from int) {
	t.Helper()
	c, r := known(t)
	name := "unit " + strconv.Itoa(i) + " " + f.name + " from step " + strconv.Itoa(from) + " on"
	for n, d := range deeds() {
		if n == from {
			f.do(t, c, i)
		}
		got := r.Step(c.us(), c.b)
		if n < from || !slices.Contains(f.hits(d), i) {
			if got != d.state || r.Err() != nil {
				t.Errorf("%s: step %d answers %d, %v", name, n, got, r.Err())
				return
			}
			continue
		}
		if got != recon.Failed || r.State() != recon.Failed || r.Err() != f.err || r.Sequencer() != nil || !plan.Same(r.Next(), behind()) {
			t.Errorf("%s: step %d answers %d, %v", name, n, got, r.Err())
		}
		f.stays(t, name, r)
		return
	}
}

// stays holds that a way that has failed stays so, also where all is well.
func (f fault) stays(t *testing.T, name string, r *recon.Recon) {
	t.Helper()
	c, _ := known(t)
	for range 3 {
		if n := r.Step(c.all, c.b); n != recon.Failed || r.Err() != f.err || r.Sequencer() != nil {
			t.Errorf("%s: then it is %d, %v", name, n, r.Err())
		}
	}
	c.holds(t, name, left(0))
}

// Units that are beyond the end are down, too.
func TestBeyondTheEnd(t *testing.T) {
	for count := range 6 {
		for from := range deeds() {
			c, r := known(t)
			for n, d := range deeds() {
				us := c.all
				if n >= from {
					us = us[:count]
				}
				kept := n >= from && slices.ContainsFunc(d.up, func(i int) bool { return i >= count })
				if got := r.Step(us, c.b); kept != (got == recon.Failed) || kept != (r.Err() == api.ErrDown) {
					t.Fatalf("%d units from step %d on: step %d answers %d, %v", count, from, n, got, r.Err())
				}
				if kept {
					break
				}
			}
		}
	}
}

// What else may befall a unit ahead of a step: at which step it then fails, if it does.
func TestOtherFaults(t *testing.T) {
	other := func(t *testing.T, c *scene, i, at int) { must(t, c.all[i].Write(4, at, []byte("other"))) }
	chokes := func(t *testing.T, c *scene, i int) { choke(t, c.all[i]) }
	for _, k := range []struct {
		name  string
		from  int
		do    func(t *testing.T, c *scene)
		fails int // -1: it is done
		err   error
	}{
		{"no room for a seal", 0, func(t *testing.T, c *scene) { chokes(t, c, 3) }, 2, api.ErrFull},
		{"no room for a trim", 3, func(t *testing.T, c *scene) { chokes(t, c, 2) }, 9, api.ErrFull},
		{"a trim that is needless", 3, func(t *testing.T, c *scene) { chokes(t, c, 3) }, 11, api.ErrFull},
		{"no room for a page", 4, func(t *testing.T, c *scene) { chokes(t, c, 4) }, 6, api.ErrFull},
		{"another page ahead", 4, func(t *testing.T, c *scene) { other(t, c, 4, 0) }, 6, api.ErrState},
		{"another page later", 4, func(t *testing.T, c *scene) { other(t, c, 4, 2) }, 8, api.ErrState},
		{"a page where there is none", 4, func(t *testing.T, c *scene) { other(t, c, 4, 1) }, -1, nil},
		{"a page behind its address' step", 8, func(t *testing.T, c *scene) { other(t, c, 0, 1) }, -1, nil},
		{"a page behind its address' step, and no room for it", 9, func(t *testing.T, c *scene) {
			other(t, c, 0, 1)
			chokes(t, c, 4)
		}, 13, api.ErrFull},
		{"the same page", 4, func(t *testing.T, c *scene) { c.put(t, 2, pageOf(t, 0, 2), 4) }, -1, nil},
		{"another one that is trimmed", 6, func(t *testing.T, c *scene) { must(t, c.all[4].Trim(4, 1)) }, 6, api.ErrTrimmed},
		{"the first one trimmed", 6, func(t *testing.T, c *scene) { must(t, c.all[0].Trim(4, 3)) }, -1, nil},
	} {
		c, r := known(t)
		for n := 0; r.State() < recon.Done; n++ {
			if n == k.from {
				k.do(t, c)
			}
			if r.Step(c.us(), c.b); (r.State() == recon.Failed) != (n == k.fails) || n == k.fails && r.Err() != k.err {
				t.Errorf("%s: step %d: %d, %v", k.name, n, r.State(), r.Err())
				break
			}
		}
	}
}

// P16.1: how many steps there are, each kind.

func TestHowManySteps(t *testing.T) {
	for _, k := range []struct {
		p     plan.Plan
		gone  []int
		fresh int
		pages [][]int // own addresses, by unit
		trims []int   // by unit
		steps [4]int  // sealing, copying, deciding, beginning
	}{
		{by(0, []int{0}), nil, -1, nil, nil, [4]int{1, 1, 1, 1}},
		{by(0, []int{0, 1, 2}), nil, -1, nil, nil, [4]int{3, 3, 1, 1}},
		{by(0, []int{0, 1, 2}), []int{0, 2}, -1, nil, nil, [4]int{1, 1, 1, 1}},
		{by(0, []int{0}), nil, 1, nil, nil, [4]int{2, 2, 1, 1}},
		{by(0, []int{0}), nil, -1, [][]int{{0, 1, 2, 3, 4}}, nil, [4]int{1, 6, 1, 1}},
		{by(0, []int{0}), nil, -1, [][]int{{4}}, nil, [4]int{1, 6, 1, 1}},
		{by(0, []int{0}), nil, -1, [][]int{{0, 1, 2, 3, 4}}, []int{2}, [4]int{1, 4, 1, 1}},
		{by(0, []int{0}), nil, -1, [][]int{{0, 1}}, []int{2}, [4]int{1, 1, 1, 1}},
		{by(0, []int{0}), nil, -1, [][]int{{0, 1}}, []int{7}, [4]int{1, 1, 1, 1}},
		{by(0, []int{0, 1}), nil, -1, [][]int{{0, 1, 2}, {0, 1}}, []int{0, 2}, [4]int{2, 3, 1, 1}},
		{by(0, []int{0, 1}), nil, -1, [][]int{{0, 1, 2}, {0}}, []int{1, 0}, [4]int{2, 4, 1, 1}},
		{by(0, []int{0, 1}), nil, -1, [][]int{{0, 1, 2}, {0}}, []int{0, 9}, [4]int{2, 2, 1, 1}},
		{by(0, []int{1, 0}), nil, -1, [][]int{{0, 1, 2}, {0}}, nil, [4]int{2, 3, 1, 1}},
		{by(0, []int{1, 0}), []int{1}, -1, [][]int{{0, 1, 2}, {0}}, nil, [4]int{1, 4, 1, 1}},
		{by(0, []int{0}, []int{1}, []int{2}), nil, 3, [][]int{{0}, {}, {0, 1}}, nil, [4]int{4, 2 + 1 + 1 + 1 + 2, 1, 1}},
		{by(0, []int{0, 1}, []int{2, 3}), []int{0}, 4, [][]int{{0, 1}, {0}, {0}, {0}}, nil, [4]int{4, 2 + 1 + 2 + 1, 1, 1}},
		{by(0, []int{0}), nil, -1, [][]int{{4095}}, nil, [4]int{1, 4097, 1, 1}},
		{by(0, []int{0}), nil, -1, nil, []int{4096}, [4]int{1, 1, 1, 1}},
	} {
		c := newScene(t, k.p, 5, 2)
		for i, own := range k.pages {
			for _, at := range own {
				c.put(t, at, pageOf(t, 1), i)
			}
		}
		for i, to := range k.trims {
			must(t, c.all[i].Trim(0, to))
		}
		r, err := recon.New(k.p, k.gone, k.fresh, 0)
		must(t, err)
		var steps [4]int
		for r.State() < recon.Done {
			steps[r.State()-1]++
			r.Step(c.all, c.b)
		}
		if steps != k.steps || r.State() != recon.Done {
			t.Errorf("%v without %v, with %d, of %v, %v: %v steps, not %v, %v", k.p, k.gone, k.fresh, k.pages, k.trims, steps, k.steps, r.Err())
		}
	}
}

// P16.1: in which order units are sealed and trimmed.

func TestOrder(t *testing.T) {
	p := by(0, []int{9, 4}, []int{10, 2, 7})
	c := newScene(t, p, 12, 1)
	must(t, c.all[4].Trim(0, 5))
	must(t, c.all[7].Trim(0, 3))
	r, err := recon.New(p, nil, 0, 0)
	must(t, err)
	for _, number := range []int{0, 2, 4, 7, 9, 10} {
		if c.all[number].Epoch() != 0 || r.Step(c.all, c.b) != 1+number/10 || c.all[number].Epoch() != 1 {
			t.Fatalf("unit %d isn't sealed by its step: %v", number, r.Err())
		}
	}
	for i, number := range []int{9, 4, 0, 10, 2, 7} {
		to, was := []int{5, 5, 5, 3, 3, 3}[i], []int{0, 5, 0, 0, 0, 3}[i]
		if c.all[number].Trimmed() != was || r.Step(c.all, c.b) != 2+i/5 || c.all[number].Trimmed() != to {
			t.Fatalf("unit %d is trimmed to %d by its step: %v", number, c.all[number].Trimmed(), r.Err())
		}
	}
	for i, u := range c.all {
		if u.Epoch() == 1 != slices.Contains([]int{0, 2, 4, 7, 9, 10}, i) {
			t.Errorf("unit %d is of epoch %d", i, u.Epoch())
		}
	}
}

// P16.1: a fresh unit that has a page.

func TestFreshHasPages(t *testing.T) {
	for _, k := range []struct {
		name string
		do   func(c *scene, t *testing.T)
		err  error
	}{
		{"nothing", func(*scene, *testing.T) {}, nil},
		{"a page", func(c *scene, t *testing.T) { c.put(t, 0, []byte("x"), 1) }, api.ErrState},
		{"a page at the end", func(c *scene, t *testing.T) { c.put(t, 4095, []byte("x"), 1) }, api.ErrState},
		{"it is trimmed", func(c *scene, t *testing.T) { must(t, c.all[1].Trim(0, 1)) }, api.ErrState},
		{"it is sealed by an elder epoch", func(c *scene, t *testing.T) { c.all[1].Seal(5) }, nil},
		{"it is sealed by the next epoch", func(c *scene, t *testing.T) { c.all[1].Seal(6) }, nil},
		{"it is sealed by a later epoch", func(c *scene, t *testing.T) { c.all[1].Seal(7) }, api.ErrSealed},
		{"a page, and a later epoch", func(c *scene, t *testing.T) {
			c.put(t, 0, []byte("x"), 1)
			c.all[1].Seal(7)
		}, api.ErrSealed},
		{"a page, and its device is down", func(c *scene, t *testing.T) {
			c.put(t, 0, []byte("x"), 1)
			c.ds[1].Stop(0)
		}, api.ErrDown},
	} {
		p := by(5, []int{0}, []int{2})
		c := newScene(t, p, 3, 1)
		k.do(c, t)
		// Other units may have pages.
		c.put(t, 0, pageOf(t, 1), 0, 2)
		r, err := recon.New(p, nil, 1, 0)
		must(t, err)
		first := r.Step(c.all, c.b)
		second := r.Step(c.all, c.b)
		want := recon.Sealing
		if k.err != nil {
			want = recon.Failed
		}
		if first != recon.Sealing || second != want || r.Err() != k.err {
			t.Errorf("%s: %d, then %d, %v", k.name, first, second, r.Err())
		}
		if sealed := k.err == nil || k.err == api.ErrState; sealed != (c.all[1].Epoch() == 6) || c.all[2].Epoch() != 0 {
			t.Errorf("%s: it is sealed by %d", k.name, c.all[1].Epoch())
		}
	}
}

// P16.1: deciding.

// deciding is a way that is deciding, of a ballot, and a book of so many voters.
func deciding(t *testing.T, voters, ballot int) (*scene, *recon.Recon) {
	t.Helper()
	p := by(2, []int{0})
	c := newScene(t, p, 1, 1)
	b, err := book.New(voters, p)
	must(t, err)
	c.b = b
	r, err := recon.New(p, nil, -1, ballot)
	must(t, err)
	r.Step(c.all, c.b)
	if r.Step(c.all, c.b) != recon.Deciding {
		t.Fatalf("it is %d, %v", r.State(), r.Err())
	}
	return c, r
}

func TestAllVotersAreAsked(t *testing.T) {
	for voters := 1; voters <= 5; voters++ {
		for ups := range 1 << voters {
			c, r := deciding(t, voters, 0)
			for i := range voters {
				c.b.Set(i, ups>>i&1 == 1)
			}
			want, err, known := recon.Beginning, error(nil), 2
			if c.b.Up() <= voters/2 {
				want, err, known = recon.Failed, api.ErrDown, 1
			}
			if n := r.Step(nil, c.b); n != want || r.Err() != err || c.b.Known() != known || r.Sequencer() != nil {
				t.Errorf("%d voters, %b up: %d, %v", voters, ups, n, r.Err())
			}
		}
	}
}

// What is asked is asked by its ballot: of one that isn't above what has been promised nothing comes.
func TestBallot(t *testing.T) {
	for _, ballot := range []int{0, 1, 7, 1 << 40} {
		for _, promised := range []int{0, 1, 6, 7, 8, 1<<40 - 1, 1 << 40} {
			c, r := deciding(t, 3, ballot)
			// One voter of three: it promises, and nothing is decided.
			if _, err := c.b.Propose(promised, r.Next(), []int{0}); err != api.ErrDown {
				t.Fatal(err)
			}
			c.b.Set(1, false)
			want := recon.Beginning
			if ballot <= promised {
				want = recon.Failed
			}
			if n := r.Step(nil, c.b); n != want || (r.Err() == api.ErrDown) != (want == recon.Failed) {
				t.Errorf("ballot %d, promised %d: %d, %v", ballot, promised, n, r.Err())
			}
		}
	}
}

// What didn't come to a decision has been asked all the same.
func TestBallotIsPromised(t *testing.T) {
	c, r := deciding(t, 5, 7)
	for i := range 3 {
		c.b.Set(i, false)
	}
	r.Step(nil, c.b)
	for i := range 5 {
		b := c.b.Copy()
		for j := range 5 {
			b.Set(j, true)
		}
		// With two voters who have promised nothing: who has promised 7 doesn't promise it again, but promises 8.
		asked := []int{i, (i + 1) % 3, (i + 2) % 3}
		_, err := b.Copy().Propose(7, r.Next(), asked)
		_, later := b.Copy().Propose(8, r.Next(), asked)
		if (err == nil) != (i < 3) || later != nil {
			t.Errorf("voter %d: by 7 %v, by 8 %v", i, err, later)
		}
	}
}

// The book is elsewhere: the plan that it knows by then is of the next epoch already, or of an elder one.
func TestBookIsElsewhere(t *testing.T) {
	for _, known := range []plan.Plan{by(0, []int{0}), by(1, []int{0}), by(3, []int{0}), by(3, []int{0, 1}), by(4, []int{0}), by(1<<30, []int{0})} {
		c, r := deciding(t, 3, 1)
		b, err := book.New(3, known)
		must(t, err)
		if n := r.Step(c.all, b); n != recon.Failed || r.Err() != api.ErrEpoch || b.Known() != 1 || !plan.Same(b.Latest(), known) {
			t.Errorf("it knows %v: %d, %v", known, n, r.Err())
		}
		if n := r.Step(c.all, c.b); n != recon.Failed || c.b.Known() != 1 {
			t.Errorf("it knows %v: then %d, %d plans", known, n, c.b.Known())
		}
	}
}

// Two ways from one plan: one at most is done.
func TestTwoWays(t *testing.T) {
	p := by(0, []int{0, 1})
	for _, second := range []struct{ gone, fresh int }{{1, 2}, {0, -1}, {1, 3}} {
		c := newScene(t, p, 4, 1)
		a, err := recon.New(p, []int{1}, 2, 1)
		must(t, err)
		b, err := recon.New(p, []int{second.gone}, second.fresh, 2)
		must(t, err)
		for range 20 {
			a.Step(c.all, c.b)
			b.Step(c.all, c.b)
		}
		if a.State() == b.State() || a.State()+b.State() != recon.Done+recon.Failed || a.Err() != nil && a.Err() != api.ErrEpoch || b.Err() != nil && b.Err() != api.ErrEpoch {
			t.Errorf("without %d, with %d: %d, %v, and %d, %v", second.gone, second.fresh, a.State(), a.Err(), b.State(), b.Err())
		}
	}
}

// P16.1: a way that is done does nothing more, whatever it is given.

func TestDoneStays(t *testing.T) {
	c, r := known(t)
	for range deeds() {
		r.Step(c.all, c.b)
	}
	s := r.Sequencer()
	before := c.twin(t)
	for _, us := range []chain.Units{c.all, nil, newScene(t, ahead(), 6, 1).all} {
		if n := r.Step(us, c.b); n != recon.Done || r.State() != recon.Done || r.Err() != nil || r.Sequencer() != s {
			t.Errorf("it is %d, %v", n, r.Err())
		}
	}
	if n, err := s.Next(4); n != 5 || err != nil {
		t.Errorf("the next address is %d, %v", n, err)
	}
	if wrong := c.differs(before); wrong != "" {
		t.Error(wrong)
	}
}

// The rules for all layers: nothing that is handed in changes, or is kept; what is answered is the caller's own.
func TestNothingIsShared(t *testing.T) {
	c, _ := known(t)
	p, gone := ahead(), []int{1}
	r, err := recon.New(p, gone, 4, 9)
	must(t, err)
	if !plan.Same(p, ahead()) || gone[0] != 1 {
		t.Errorf("New has changed %v, %v", p, gone)
	}
	spoil := func(p plan.Plan) {
		for _, row := range p.Chains {
			for i := range row {
				row[i] = 11
			}
		}
	}
	spoil(p)
	gone[0] = 3
	for i, d := range deeds() {
		spoil(r.Next())
		us := slices.Clone(c.all)
		if n := r.Step(us, c.b); n != d.state || !slices.Equal(us, c.all) {
			t.Fatalf("step %d: %d, %v", i, n, r.Err())
		}
		clear(us)
	}
	if !plan.Same(r.Next(), behind()) || !plan.Same(c.b.Latest(), behind()) {
		t.Errorf("it has %v, the book %v", r.Next(), c.b.Latest())
	}
	q := behind()
	s, err := recon.Scan(c.all, q)
	must(t, err)
	if wrong := alike(s, r.Sequencer()); wrong != "" || !plan.Same(q, behind()) {
		t.Errorf("Scan: %s, %v", wrong, q)
	}
	_, _, err = s.Take(4, []int{0})
	must(t, err)
	if n, _ := r.Sequencer().Next(4); n != 5 {
		t.Errorf("Scan's sequencer is the way's")
	}
}
