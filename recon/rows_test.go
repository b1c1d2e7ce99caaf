package recon_test

import (
	"math/rand"
	"strconv"
	"sync"
	"testing"

	"tidewater/api"
	"tidewater/disk"
	"tidewater/page"
	"tidewater/plan"
	"tidewater/recon"
	"tidewater/unit"
)

// P16.1: long thrown rows of steps of several ways from one plan, with all that may happen to units, voters and the book between them, each step and all that it leaves held against the words' own way on a twin.

// A row is a thrown row: two scenes to which the same happens, and its ways.
type row struct {
	r       *rand.Rand
	c, twin *scene
	p       plan.Plan
	ways    []*pair
	calm    bool // little else happens
}

// shapes is some rows of how many units chains have.
func shapes() [][]int {
	return [][]int{{1}, {2}, {3}, {1, 1}, {2, 1}, {2, 2}, {3, 2}, {1, 2, 2}, {2, 2, 2}}
}

// thrownPlan is a plan of such chains, of units 0 to 6 by chance.
func thrownPlan(r *rand.Rand, epoch int, sizes []int) plan.Plan {
	units := r.Perm(7)
	p := plan.Plan{Epoch: epoch}
	for _, size := range sizes {
		p.Chains = append(p.Chains, units[:size:size])
		units = units[size:]
	}
	return p
}

// newRow is a row of some number.
func newRow(t *testing.T, n int) *row {
	t.Helper()
	r := rand.New(rand.NewSource(int64(n)))
	p := thrownPlan(r, r.Intn(3), shapes()[n%len(shapes())])
	w := &row{r: r, c: newScene(t, p, 9, 1+r.Intn(2)), p: p, calm: n%3 > 0}
	for _, copies := range p.Chains {
		w.lays(t, copies)
	}
	w.twin = w.c.twin(t)
	return w
}

// thrownPage is one of few pages.
func (w *row) thrownPage(t *testing.T) []byte {
	all := [][]byte{page.Junk(), pageOf(t, 1), pageOf(t, 0, 2), pageOf(t, 0, 3, 1), []byte("x")}
	return all[w.r.Intn(len(all))]
}

// lays lays pages on a chain's units: of each own address on none, on some of the first, or on all; and trims some.
func (w *row) lays(t *testing.T, copies []int) {
	t.Helper()
	for at := range w.r.Intn(6) {
		b := w.thrownPage(t)
		count := len(copies)
		if w.r.Intn(3) == 0 {
			count = w.r.Intn(count + 1)
		}
		w.c.put(t, at, b, copies[:count]...)
	}
	for _, i := range copies {
		if w.r.Intn(4) == 0 {
			must(t, w.c.all[i].Trim(w.p.Epoch, w.r.Intn(5)))
		}
	}
}

// begins begins a further way from the plan.
func (w *row) begins(t *testing.T) {
	t.Helper()
	var gone []int
	for range w.r.Intn(3) {
		gone = append(gone, w.r.Intn(9))
	}
	fresh, ballot := w.r.Intn(10)-1, len(w.ways)
	if _, err := recon.New(w.p, gone, fresh, ballot); err == nil {
		w.ways = append(w.ways, newPair(t, w.p, gone, fresh, ballot))
	}
}

// both does the same to both scenes.
func (w *row) both(do func(c *scene)) {
	do(w.c)
	do(w.twin)
}

// happens lets something else happen than a step.
func (w *row) happens(t *testing.T) {
	t.Helper()
	i, on, left := w.r.Intn(9), w.r.Intn(4) > 0, w.r.Intn(8)
	switch w.r.Intn(12) {
	case 0:
		w.both(func(c *scene) { c.up[i] = false })
	case 1, 2, 3:
		w.both(func(c *scene) {
			for i := range c.up {
				c.up[i] = true
			}
		})
	case 4, 5:
		w.both(func(c *scene) { c.b.Set(i%3, on) })
	case 6:
		w.both(func(c *scene) { c.ds[i].Stop(left) })
	default:
		w.touches(t, i)
	}
	w.opens(t)
}

// touches lets a unit be written, trimmed or sealed, or the book be told of another plan.
func (w *row) touches(t *testing.T, i int) {
	t.Helper()
	epoch, at, b := w.p.Epoch+1, w.r.Intn(7), w.thrownPage(t)
	if w.calm {
		epoch--
	}
	if w.r.Intn(20) == 0 {
		epoch++
	}
	n := w.r.Intn(16)
	w.both(func(c *scene) {
		switch {
		case n < 7:
			c.all[i].Write(epoch, at, b)
		case n < 12:
			c.all[i].Trim(epoch, at)
		case n < 15:
			c.all[i].Seal(epoch)
		default:
			c.b.Propose(99, plan.Plan{Epoch: epoch, Chains: w.p.Chains}, []int{0, 1, 2})
		}
	})
}

// opens opens units whose devices are down anew.
func (w *row) opens(t *testing.T) {
	t.Helper()
	kept, torn, cut := w.r.Uint64(), w.r.Intn(4), w.r.Intn(65)
	w.both(func(c *scene) {
		for i, d := range c.ds {
			if d.Down() {
				c.opens(t, i, d, kept, torn, cut)
			}
		}
	})
}

// opens crashes a unit's device, and opens it anew.
func (c *scene) opens(t *testing.T, i int, d *disk.Device, kept uint64, torn, cut int) {
	d.Crash(kept, torn, cut)
	u, err := unit.Open(d)
	must(t, err)
	c.all[i] = u
}

// steps lets a way do a step; one that has ended, seldom.
func (w *row) steps(t *testing.T) {
	t.Helper()
	i := w.r.Intn(len(w.ways))
	if w.ways[i].r.State() >= recon.Done && w.r.Intn(8) > 0 {
		return
	}
	if wrong := w.ways[i].step(w.c, w.twin); wrong != "" {
		t.Fatalf("way %d of %v: %s", i, w.p, wrong)
	}
}

// goes goes on with a row up to its end: how its ways ended is counted.
func (w *row) goes(t *testing.T, ended map[error]int) {
	t.Helper()
	often := 4
	if w.calm {
		often = 10
	}
	for range 250 {
		switch {
		case w.r.Intn(often) == 0:
			w.happens(t)
		case len(w.ways) == 0, len(w.ways) < 5 && w.r.Intn(30) == 0:
			w.begins(t)
		default:
			w.steps(t)
		}
	}
	for _, r := range w.ways {
		if r.r.State() >= recon.Done {
			ended[r.r.Err()]++
		}
	}
}

func TestThrownRows(t *testing.T) {
	var mutex sync.Mutex
	ended := map[error]int{}
	t.Run("rows", func(t *testing.T) {
		for n := range 3000 {
			t.Run(strconv.Itoa(n), func(t *testing.T) {
				t.Parallel()
				mine := map[error]int{}
				newRow(t, n).goes(t, mine)
				mutex.Lock()
				defer mutex.Unlock()
				for err, count := range mine {
					ended[err] += count
				}
			})
		}
	})
	for _, err := range []error{nil, api.ErrDown, api.ErrSealed, api.ErrState, api.ErrEpoch, api.ErrTrimmed} {
		if ended[err] < 20 {
			t.Errorf("just %d ways end by %s", ended[err], text(err))
		}
	}
}
