package recon_test

import (
	"math/rand"
	"slices"
	"strconv"
	"testing"

	"tidewater/api"
	"tidewater/chain"
	"tidewater/disk"
	"tidewater/entry"
	"tidewater/page"
	"tidewater/plan"
	"tidewater/recon"
	"tidewater/token"
	"tidewater/unit"
	"tidewater/writer"
)

// P16.2: also over many epochs, where units lose their power in the midst of steps, and are opened anew or go for good.

// A plant is a log whose plans change: its units, its plan and sequencer, the writers that go on and those that are done, and the way to the next plan.
type plant struct {
	r    *rand.Rand
	c    *scene
	p    plan.Plan
	s    *token.Sequencer
	on   []*writer.Writer
	done []*writer.Writer
	read map[int]string // what was read by any plan up to now
	trim int            // up to there it may be trimmed
	way  *recon.Recon
	// Units that have gone by a way that failed go by the later ones from the same plan, too: what it copied they don't have.
	gone         []int
	fresh        int // the one of the way; -1, if there is none
	ways, failed int
	ended        int // ways that are done
}

// newPlant is a plant of one of several shapes.
func newPlant(t *testing.T, n int) *plant {
	t.Helper()
	r := rand.New(rand.NewSource(int64(n)))
	p := thrownPlan(r, 0, shapes()[n%len(shapes())])
	s, err := token.New(0, 0, nil)
	must(t, err)
	return &plant{r: r, c: newScene(t, p, 12, 12), p: p, s: s, read: map[int]string{}}
}

// goes lets writers, readers or others do something.
func (l *plant) goes(t *testing.T) {
	t.Helper()
	tail, err := l.s.Next(l.p.Epoch)
	must(t, err)
	switch n := l.r.Intn(40); {
	case n == 0:
		l.trim = max(l.trim, tail*2/3)
		chain.Trim(l.c.us(), l.p, l.trim)
	case n < 3:
		chain.Fill(l.c.us(), l.p, l.r.Intn(tail+2))
	case n < 10:
		l.reads(l.r.Intn(tail + 1))
	case n < 16 && len(l.on) < 4:
		w, err := writer.New(entryOf([][]int{{n - 9}, {0, n - 4}, {0, 1, n - 5}}[l.r.Intn(3)]...))
		must(t, err)
		l.on = append(l.on, w)
	case len(l.on) > 0:
		l.writes(l.r.Intn(len(l.on)))
	}
}

// reads reads an address, and keeps what is there.
func (l *plant) reads(a int) {
	if b, err := chain.Read(l.c.us(), l.p, a); err == nil {
		l.read[a] = string(b)
	}
}

// writes lets a writer do a step, and takes it out at its end.
func (l *plant) writes(i int) {
	w := l.on[i]
	switch w.Step(l.c.us(), l.p, l.s) {
	case writer.Done:
		l.done = append(l.done, w)
		fallthrough
	case writer.Failed:
		l.on = slices.Delete(l.on, i, i+1)
	}
}

// begins begins a way, if there is one that may be.
func (l *plant) begins() {
	gone := slices.Clone(l.gone)
	if l.r.Intn(2) == 0 {
		gone = append(gone, plan.Units(l.p)[l.r.Intn(len(plan.Units(l.p)))])
	}
	fresh := l.r.Intn(16) - 4
	l.ways++
	way, err := recon.New(l.p, gone, fresh, l.ways)
	if err == nil {
		l.way, l.gone, l.fresh = way, gone, fresh
	}
}

// steps lets the way do a step.
func (l *plant) steps(t *testing.T) {
	t.Helper()
	switch l.way.Step(l.c.us(), l.c.b) {
	case recon.Failed:
		l.fails(t)
		l.failed++
	case recon.Done:
		l.changes(t, l.way.Next(), l.way.Sequencer())
		l.ended++
	}
}

// fails gives up the way.
func (l *plant) fails(t *testing.T) {
	t.Helper()
	l.way = nil
	next := l.c.b.Latest()
	switch {
	case next.Epoch > l.p.Epoch:
		// It failed at its beginning, behind the decision: there is a plan, and no sequencer.
		s, err := recon.Scan(l.c.us(), next)
		if err != nil {
			l.opensAll(t)
			s, err = recon.Scan(l.c.us(), next)
		}
		must(t, err)
		l.changes(t, next, s)
	case l.fresh >= 0:
		// It may have pages: an empty one comes in its place.
		l.renews(t, l.fresh)
	}
}

// opensAll opens all units anew whose devices are down.
func (l *plant) opensAll(t *testing.T) {
	t.Helper()
	for i, d := range l.c.ds {
		if d.Down() {
			l.opens(t, i)
		}
	}
}

// changes goes to a next plan, of which all is held that is to hold.
func (l *plant) changes(t *testing.T, p plan.Plan, s *token.Sequencer) {
	t.Helper()
	l.opensAll(t)
	name := "to " + strconv.Itoa(p.Epoch)
	kept(t, name, l.c.all, p, l.read, l.trim)
	tells(t, name, l.c.all, p, s)
	l.p, l.s, l.way, l.gone = p, s, nil, nil
	l.holds(t)
	for i := range l.c.all {
		if !slices.Contains(plan.Units(l.p), i) {
			l.renews(t, i)
		}
	}
}

// renews puts an empty unit in a unit's place.
func (l *plant) renews(t *testing.T, i int) {
	t.Helper()
	d, err := disk.New(12 * 64)
	must(t, err)
	u, err := unit.Open(d)
	must(t, err)
	l.c.all[i], l.c.ds[i], l.c.up[i] = u, d, true
}

// opens crashes a unit's device, by chance as to what is kept, and opens it anew.
func (l *plant) opens(t *testing.T, i int) {
	t.Helper()
	l.c.opens(t, i, l.c.ds[i], l.r.Uint64(), l.r.Intn(70)-2, l.r.Intn(65))
	l.c.up[i] = true
}

// power stops devices at some time, takes out the units of those that are down, and opens some anew.
func (l *plant) power(t *testing.T) {
	t.Helper()
	if l.r.Intn(25) == 0 {
		l.c.ds[l.r.Intn(len(l.c.ds))].Stop(l.r.Intn(12))
	}
	for i, d := range l.c.ds {
		if !d.Down() {
			continue
		}
		l.c.up[i] = false
		if l.r.Intn(6) == 0 {
			l.opens(t, i)
		}
	}
	l.c.b.Set(l.r.Intn(3), l.r.Intn(8) > 0)
}

// holds holds what is read at the addresses of all writers that are done.
func (l *plant) holds(t *testing.T) {
	t.Helper()
	at := map[int]bool{}
	for _, w := range l.done {
		b, err := chain.Read(l.c.us(), l.p, w.Address())
		if w.Address() < l.trim && err == api.ErrTrimmed {
			continue
		}
		must(t, err)
		e, _, err := page.Read(b)
		if err != nil || !entry.Same(e, w.Entry()) || at[w.Address()] {
			t.Fatalf("by %v at %d there is %v, %v, not %v", l.p, w.Address(), e, err, w.Entry())
		}
		at[w.Address()] = true
	}
}

// ends lets all be up, and one more way be done.
func (l *plant) ends(t *testing.T) {
	t.Helper()
	for i := range l.c.ds {
		l.opens(t, i)
	}
	for i := range 3 {
		l.c.b.Set(i, true)
	}
	for l.way != nil {
		l.steps(t)
	}
	l.ways++
	way, err := recon.New(l.p, l.gone, -1, l.ways)
	must(t, err)
	l.way = way
	for l.way.State() < recon.Beginning {
		l.way.Step(l.c.us(), l.c.b)
	}
	if l.way.Step(l.c.us(), l.c.b) != recon.Done {
		t.Fatalf("where all is up, the way is %d, %v", l.way.State(), l.way.Err())
	}
	l.changes(t, l.way.Next(), l.way.Sequencer())
}

func TestOverLosses(t *testing.T) {
	for n := range 800 {
		t.Run(strconv.Itoa(n), func(t *testing.T) {
			t.Parallel()
			l := newPlant(t, n)
			for range 1200 {
				switch {
				case l.way != nil && l.r.Intn(3) > 0:
					l.steps(t)
				case l.way == nil && l.r.Intn(40) == 0:
					l.begins()
				default:
					l.goes(t)
				}
				l.power(t)
			}
			l.ends(t)
			if len(l.done) < 5 || l.ended < 1 || l.ended+l.failed < 3 {
				t.Errorf("just %d writers and %d ways are done, %d ways failed", len(l.done), l.ended, l.failed)
			}
		})
	}
}
