package writer_test

import (
	"math/rand"
	"slices"
	"strconv"
	"strings"
	"testing"

	"tidewater/api"
	"tidewater/chain"
	"tidewater/disk"
	"tidewater/page"
	"tidewater/plan"
	"tidewater/writer"
)

// P15.1: in every order: all short rows, and long thrown ones, of steps and of what others do between, held against what the words make of them.

// A run is a writer that goes on, and the plan of its steps. What is told of the writer is what the words make of it.
type run struct {
	*pair
	p plan.Plan
}

// A move is something that happens: what is wrong behind it.
type move struct {
	name string
	do   func(t *testing.T, r *run) string
}

// stepping is a step by a plan that is made of the run's own one.
func stepping(name string, by func(p plan.Plan) plan.Plan, noSequencer bool) move {
	return move{name, func(t *testing.T, r *run) string { return r.step(t, by(r.p), noSequencer) }}
}

// others is something that others do to a scene, by the run's plan, about its address (or the next one, if it has none).
func others(name string, do func(c *scene, p plan.Plan, a int)) move {
	return move{name, func(t *testing.T, r *run) string {
		a, _ := r.o.last()
		if a < 0 {
			a = next(t, r.c.s)
		}
		r.both(func(c *scene) { do(c, r.p, a) })
		return r.wrong(t)
	}}
}

// steps is steps of all sorts.
func steps() []move {
	return []move{
		stepping("Step", func(p plan.Plan) plan.Plan { return p }, false),
		stepping("Step without a sequencer", func(p plan.Plan) plan.Plan { return p }, true),
		stepping("Step by a later epoch", func(p plan.Plan) plan.Plan { return of(p.Epoch+1, p) }, false),
		stepping("Step by one copy of each", func(p plan.Plan) plan.Plan {
			q := plan.Plan{Epoch: p.Epoch}
			for _, copies := range p.Chains {
				q.Chains = append(q.Chains, copies[:1:1])
			}
			return q
		}, false),
		stepping("Step by no chains", func(p plan.Plan) plan.Plan { return plan.Plan{Epoch: p.Epoch} }, false),
	}
}

// happenings is what others do, and what befalls units. (What calls answer is of no account here: both scenes come by the same.)
func happenings() []move {
	return []move{
		others("Fill", func(c *scene, p plan.Plan, a int) { chain.Fill(c.us(), p, a) }),
		others("Fill the next one", func(c *scene, p plan.Plan, a int) { chain.Fill(c.us(), p, a+1) }),
		others("Read", func(c *scene, p plan.Plan, a int) { chain.Read(c.us(), p, a) }),
		others("Trim", func(c *scene, p plan.Plan, a int) { chain.Trim(c.us(), p, a+1) }),
		others("junk on copy 1", func(c *scene, p plan.Plan, a int) { chain.Step(c.us(), p, a, 1, page.Junk()) }),
		others("another Append", func(c *scene, p plan.Plan, a int) { writer.Append(c.us(), p, c.s, merge()) }),
		others("Seal unit 0", func(c *scene, p plan.Plan, a int) { c.all[0].Seal(p.Epoch + 1) }),
		others("unit 0 comes or goes", func(c *scene, p plan.Plan, a int) { c.up[0] = !c.up[0] }),
		others("the last unit comes or goes", func(c *scene, p plan.Plan, a int) { c.up[len(c.up)-1] = !c.up[len(c.up)-1] }),
		{"the next epoch", func(t *testing.T, r *run) string {
			r.p = of(r.p.Epoch+1, r.p)
			r.both(func(c *scene) { c.s = sequencer(t, r.p.Epoch, next(t, c.s)) })
			return r.wrong(t)
		}},
	}
}

// newRun is a writer on new units for a plan.
func newRun(t *testing.T, p plan.Plan, e api.Entry, segments int) *run {
	t.Helper()
	c := newScene(t, p.Epoch, len(plan.Units(p)), segments)
	return &run{newPair(t, c, e), p}
}

// named is the names of moves.
func named(moves []move) string {
	var names []string
	for _, m := range moves {
		names = append(names, m.name)
	}
	return strings.Join(names, ", ")
}

func TestShortRows(t *testing.T) {
	all := append(steps(), happenings()...)
	for _, sizes := range [][]int{{2}, {1, 1}} {
		for begun := range 4 {
			for _, first := range all {
				t.Run(strconv.Itoa(len(sizes))+" chains, "+strconv.Itoa(begun)+" steps, "+first.name, func(t *testing.T) {
					t.Parallel()
					row := append(slices.Repeat(all[:1], begun), first)
					eachRow(all, row, begun+3, func(row []move) {
						r := newRun(t, sized(0, sizes...), merge(), 1)
						for i, m := range row {
							if wrong := m.do(t, r); wrong != "" {
								t.Fatalf("%s: %s", named(row[:i+1]), wrong)
							}
						}
					})
				})
			}
		}
	}
}

// eachRow goes through all rows of so many moves that begin with some.
func eachRow(all, begun []move, count int, do func(row []move)) {
	if len(begun) == count {
		do(begun)
		return
	}
	for _, m := range all {
		eachRow(all, append(begun[:len(begun):len(begun)], m), count, do)
	}
}

// shapes is rows of how many units the chains have.
func shapes() [][]int {
	return [][]int{{1}, {2}, {3}, {1, 2}, {2, 1}, {3, 3}, {1, 1, 1}, {3, 1, 2}, {2, 3, 3}}
}

// throw is a move that chance makes: mostly a step, and what others do so often (of 16 moves).
func throw(r *rand.Rand, often int) move {
	all, between := steps(), happenings()
	if r.Intn(16) < often {
		// What fills is common, as it is that which lets a writer ask anew.
		if r.Intn(3) > 0 {
			return between[0]
		}
		return between[r.Intn(len(between))]
	}
	if r.Intn(40) == 0 {
		return all[r.Intn(len(all))]
	}
	return all[0]
}

func TestThrownRows(t *testing.T) {
	ends := map[string]int{}
	for n := range 300 {
		r := rand.New(rand.NewSource(int64(n)))
		all, _ := kinds()
		run := newRun(t, sized(n%3, shapes()[n%len(shapes())]...), all[0], 8)
		var last string
		for range 60 {
			m := throw(r, n%16)
			if wrong := m.do(t, run); wrong != "" {
				t.Fatalf("row %d, %s, then %s: %s", n, last, m.name, wrong)
			}
			last = m.name
			if run.o.done || run.o.err != nil && r.Intn(4) == 0 {
				ends[text(run.o.err)]++
				run = run.again(t, all[r.Intn(len(all))])
			}
		}
	}
	for _, err := range []error{nil, api.ErrSealed, api.ErrDown, api.ErrTrimmed, api.ErrState} {
		if ends[text(err)] < 5 {
			t.Errorf("just these ends: %v", ends)
		}
	}
}

// again is a further writer on the same units, all of which have come up.
func (r *run) again(t *testing.T, e api.Entry) *run {
	t.Helper()
	w, err := writer.New(e)
	must(t, err)
	r.both(func(c *scene) {
		for i := range c.up {
			c.up[i] = true
		}
	})
	return &run{&pair{w, &told{e: twinEntry(e)}, r.c, r.twin}, r.p}
}

// P15.1: several writers on the same units, each held against its own.

func TestThrownWriters(t *testing.T) {
	for n := range 100 {
		r := rand.New(rand.NewSource(int64(n)))
		all, _ := kinds()
		runs := []*run{newRun(t, sized(0, shapes()[n%len(shapes())]...), all[n%len(all)], 8)}
		for range 2 + n%3 {
			runs = append(runs, runs[0].again(t, all[r.Intn(len(all))]))
		}
		for range 80 {
			i := r.Intn(len(runs))
			if wrong := throw(r, 4).do(t, runs[i]); wrong != "" {
				t.Fatalf("row %d, writer %d: %s", n, i, wrong)
			}
			for j, other := range runs {
				if wrong := other.o.wrong(other.w); wrong != "" {
					t.Fatalf("row %d, behind a move of writer %d writer %d: %s", n, i, j, wrong)
				}
			}
			if runs[i].o.state() > 2 {
				runs[i] = runs[i].again(t, all[r.Intn(len(all))])
			}
			for _, other := range runs {
				other.p = runs[i].p
			}
		}
	}
}

// P15.1: nothing that is handed in is changed or kept, and what is answered is the caller's own.

func TestNothingShared(t *testing.T) {
	for i := range 2 {
		all, _ := kinds()
		e := all[4*i] // the Write, with its operations; the Check, with its data
		change := func(e api.Entry) {
			clear(e.Ops)
			clear(e.Data)
		}
		given := twinEntry(e)
		c, p := newScene(t, 0, 2, 1), sized(0, 2)
		w, err := writer.New(given)
		must(t, err)
		for _, want := range []int{writer.Asking, writer.Writing, writer.Writing, writer.Done} {
			if w.State() != want || !likeEntry(w.Entry(), e) {
				t.Fatalf("kind %d, state %d: the entry is %v", e.Kind, w.State(), w.Entry())
			}
			change(given)
			change(w.Entry())
			w.Step(c.all, p, c.s)
		}
		b, err := chain.Read(c.all, p, 0)
		must(t, err)
		if got, _, err := page.Read(b); err != nil || !likeEntry(got, e) {
			t.Errorf("kind %d: %v is written, %v", e.Kind, got, err)
		}
	}
}

func TestNothingChanged(t *testing.T) {
	all, _ := kinds()
	for _, e := range all {
		before := twinEntry(e)
		c, p := newScene(t, 0, 3, 1), sized(0, 1, 2)
		us := slices.Clone(c.all)
		for range 2 {
			_, err := writer.Append(us, p, c.s, e)
			must(t, err)
		}
		if !likeEntry(e, before) || !slices.EqualFunc(p.Chains, sized(0, 1, 2).Chains, slices.Equal[[]int]) || !slices.Equal(us, c.all) {
			t.Errorf("what was handed in is %v, %v", e, p)
		}
	}
}

// A step goes by the plan and the units that it is given, not by those of an elder step.
func TestStepByStep(t *testing.T) {
	c := newScene(t, 0, 3, 1)
	w, err := writer.New(merge())
	must(t, err)
	p, us := sized(0, 3), slices.Clone(c.all)
	w.Step(us, p, c.s)
	w.Step(us, p, c.s)
	d, err := disk.New(64)
	must(t, err)
	c.add(t, d)
	// Whoever holds the lists may change them: now unit 3 is copy 1, and the last one.
	p.Chains[0][1] = 3
	p.Chains[0] = p.Chains[0][:2]
	if n := w.Step(append(us, c.all[3]), p, c.s); n != writer.Done || w.Copies() != 2 || c.all[1].Has(0) || !c.all[3].Has(0) {
		t.Errorf("it is %d, %v, %d copies", n, w.Err(), w.Copies())
	}
}
