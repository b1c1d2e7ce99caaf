package shared_test

import (
	"fmt"
	"math/rand"
	"slices"
	"strconv"
	"testing"

	"tidewater/api"
	"tidewater/book"
	"tidewater/disk"
	"tidewater/entry"
	"tidewater/plan"
	"tidewater/recon"
	"tidewater/shared"
	"tidewater/unit"
	"tidewater/writer"
)

// P17.2: also over many epochs, where units lose their power in the midst of calls, and are opened anew or go for good.

// A plant is a log whose plans change: its units, plan and sequencer, a book of plans, writers, what was told, and the way to the next plan.
type plant struct {
	r       *rand.Rand
	c       *scene
	b       *book.Book
	on      []*writer.Writer
	told    map[int]string    // by address
	done    map[int]api.Entry // appended there
	trimmed int               // up to there somebody has begun to trim
	way     *recon.Recon
	// Units that have gone by a way that failed go by the later ones from the same plan, too: what it copied they don't have.
	gone        []int
	fresh       int // the one of the way; -1, if there is none
	ways, ended int // begun, and done
	again       int // how often something was told again
}

const rooms = 12 // segments of a unit

// newPlant is a plant of one of several shapes.
func newPlant(t *testing.T, n int) *plant {
	t.Helper()
	p := shapes(0)[n%7]
	b, err := book.New(3, p)
	must(t, err)
	return &plant{r: rand.New(rand.NewSource(int64(n))), c: newScene(t, p, 12, rooms), b: b, told: map[int]string{}, done: map[int]api.Entry{}}
}

// goes lets somebody do something by the log of what is up.
func (l *plant) goes(t *testing.T) {
	t.Helper()
	log := l.c.log()
	tail, err := log.Tail()
	must(t, err)
	switch n := l.r.Intn(40); {
	case n == 0:
		l.trims(log, tail*2/3)
	case n < 2:
		l.begins(t, log)
	case n < 4:
		from := l.r.Intn(tail + 1)
		all, _ := log.Pages(from, min(tail, from+8))
		for _, p := range all {
			l.tells(t, p)
		}
	case n < 16:
		if p, err := log.Page(l.r.Intn(tail + 2)); err == nil {
			l.tells(t, p)
		}
	case n < 20:
		e := l.entry()
		if at, err := log.Append(e); err == nil {
			l.done[at] = e
		}
	case n < 24 && len(l.on) < 4:
		w, err := writer.New(l.entry())
		must(t, err)
		l.on = append(l.on, w)
	case len(l.on) > 0:
		l.writes(l.r.Intn(len(l.on)))
	}
}

// entry is an entry that chance makes.
func (l *plant) entry() api.Entry {
	e := entryOf([][]int{{1 + l.r.Intn(12)}, {0, 1 + l.r.Intn(12)}, {0, 1 + l.r.Intn(6), 7 + l.r.Intn(6)}}[l.r.Intn(3)]...)
	e.Server, e.Seq = 1+l.r.Intn(4), 1+l.r.Intn(1<<30)
	return e
}

// trims trims the log, or begins to.
func (l *plant) trims(log *shared.Log, to int) {
	l.trimmed = max(l.trimmed, to)
	log.Trim(to)
}

// begins asks where the log begins: not behind what may be trimmed, as nothing else is.
func (l *plant) begins(t *testing.T, log *shared.Log) {
	t.Helper()
	if n, err := log.Begin(); err == nil && n > l.trimmed {
		t.Fatalf("it begins at %d, but is trimmed to %d", n, l.trimmed)
	}
}

// tells holds what is told of an address against what was told of it, and keeps it.
func (l *plant) tells(t *testing.T, p shared.Page) {
	t.Helper()
	text := fmt.Sprintf("%+v", p)
	if before, is := l.told[p.At]; is {
		l.again++
		if before != text {
			t.Fatalf("by %v at %d it told %s, and now %s", l.c.p, p.At, before, text)
		}
	}
	l.told[p.At] = text
	if e, is := l.done[p.At]; is && !entry.Same(e, p.Entry) {
		t.Fatalf("by %v at %d it tells %s, but %v was appended", l.c.p, p.At, text, e)
	}
}

// writes lets a writer do a step, and takes it out at its end.
func (l *plant) writes(i int) {
	w := l.on[i]
	switch w.Step(l.c.us(), l.c.p, l.c.s) {
	case writer.Done:
		l.done[w.Address()] = w.Entry()
		fallthrough
	case writer.Failed:
		l.on = slices.Delete(l.on, i, i+1)
	}
}

// sets sets out on a way, if there is one that may be.
func (l *plant) sets() {
	gone := slices.Clone(l.gone)
	units := plan.Units(l.c.p)
	if l.r.Intn(2) == 0 {
		gone = append(gone, units[l.r.Intn(len(units))])
	}
	fresh := l.r.Intn(16) - 4
	l.ways++
	if way, err := recon.New(l.c.p, gone, fresh, l.ways); err == nil {
		l.way, l.gone, l.fresh = way, gone, fresh
	}
}

// steps lets the way do a step.
func (l *plant) steps(t *testing.T) {
	t.Helper()
	switch l.way.Step(l.c.us(), l.b) {
	case recon.Failed:
		l.fails(t)
	case recon.Done:
		l.ended++
		l.c.p, l.c.s = l.way.Next(), l.way.Sequencer()
		l.changes(t)
	}
}

// fails gives up the way.
func (l *plant) fails(t *testing.T) {
	t.Helper()
	l.way = nil
	next := l.b.Latest()
	switch {
	case next.Epoch > l.c.p.Epoch:
		// It failed at its beginning, behind the decision: there is a plan, and no sequencer.
		l.opensAll(t)
		s, err := recon.Scan(l.c.all, next)
		must(t, err)
		l.c.p, l.c.s = next, s
		l.changes(t)
	case l.fresh >= 0:
		// It may have pages: an empty one comes in its place.
		l.renews(t, l.fresh)
	}
}

// changes is behind a change to another plan: all is held that is to hold, and units that no plan has any more are empty ones.
func (l *plant) changes(t *testing.T) {
	t.Helper()
	l.way, l.gone = nil, nil
	l.opensAll(t)
	l.holds(t)
	for i := range l.c.all {
		if !slices.Contains(plan.Units(l.c.p), i) {
			l.renews(t, i)
		}
	}
}

// holds holds what all units, being up, tell of all that was told or appended.
func (l *plant) holds(t *testing.T) {
	t.Helper()
	log := l.c.log()
	at := map[int]bool{}
	for a := range l.told {
		at[a] = true
	}
	for a := range l.done {
		at[a] = true
	}
	for a := range at {
		p, err := log.Page(a)
		if err == api.ErrTrimmed && a < l.trimmed {
			continue
		}
		must(t, err)
		l.tells(t, p)
	}
}

// renews puts an empty unit in a unit's place.
func (l *plant) renews(t *testing.T, i int) {
	t.Helper()
	d, err := disk.New(rooms * 64)
	must(t, err)
	l.puts(t, i, d)
}

// opens crashes a unit's device, by chance as to what is kept, and opens it anew.
func (l *plant) opens(t *testing.T, i int) {
	t.Helper()
	l.c.ds[i].Crash(l.r.Uint64(), l.r.Intn(70)-2, l.r.Intn(65))
	l.puts(t, i, l.c.ds[i])
}

// puts lets a device's unit be a unit that is up.
func (l *plant) puts(t *testing.T, i int, d *disk.Device) {
	t.Helper()
	u, err := unit.Open(d)
	must(t, err)
	l.c.all[i], l.c.ds[i], l.c.up[i] = u, d, true
}

// opensAll opens all units anew whose devices are down.
func (l *plant) opensAll(t *testing.T) {
	t.Helper()
	for i, d := range l.c.ds {
		if d.Down() {
			l.opens(t, i)
		}
	}
}

// power stops devices at some time, takes out the units of those that are down, and opens some anew.
func (l *plant) power(t *testing.T) {
	t.Helper()
	if l.r.Intn(25) == 0 {
		l.c.ds[l.r.Intn(len(l.c.ds))].Stop(l.r.Intn(12))
	}
	for i, d := range l.c.ds {
		if !d.Down() {
			continue
		}
		l.c.up[i] = false
		if l.r.Intn(6) == 0 {
			l.opens(t, i)
		}
	}
	l.b.Set(l.r.Intn(3), l.r.Intn(8) > 0)
}

// ends lets all be up, and one more way be done.
func (l *plant) ends(t *testing.T) {
	t.Helper()
	for i := range l.c.ds {
		l.opens(t, i)
	}
	for i := range 3 {
		l.b.Set(i, true)
	}
	for l.way != nil {
		l.steps(t)
	}
	l.ways++
	way, err := recon.New(l.c.p, l.gone, -1, l.ways)
	must(t, err)
	ended := l.ended
	for l.way = way; l.way != nil; {
		l.steps(t)
	}
	if l.ended == ended {
		t.Fatalf("where all is up, the way ends by %v", way.Err())
	}
	l.holds(t)
}

func TestToldAgainOverLosses(t *testing.T) {
	for n := range 500 {
		t.Run(strconv.Itoa(n), func(t *testing.T) {
			t.Parallel()
			l := newPlant(t, n)
			for range 1000 {
				switch {
				case l.way != nil && l.r.Intn(3) > 0:
					l.steps(t)
				case l.way == nil && l.r.Intn(40) == 0:
					l.sets()
				default:
					l.goes(t)
				}
				l.power(t)
			}
			l.ends(t)
			if len(l.done) < 5 || len(l.told) < 5 || l.again < 20 || l.ways < 3 || l.trimmed == 0 {
				t.Errorf("just %d were appended, %d told, %d again, %d ways, trimmed to %d", len(l.done), len(l.told), l.again, l.ways, l.trimmed)
			}
		})
	}
}
