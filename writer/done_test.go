package writer_test

import (
	"math/rand"
	"slices"
	"strconv"
	"testing"

	"tidewater/api"
	"tidewater/chain"
	"tidewater/disk"
	"tidewater/entry"
	"tidewater/page"
	"tidewater/plan"
	"tidewater/token"
	"tidewater/unit"
	"tidewater/writer"
)

// P15.2: what a done writer's address has, over all orders of steps of two writers and of what others do, however long: each state that they come by is looked at once. The log has room for just a few addresses more, so the states come to an end.

// A node is all that there is at some time: units and sequencers by epoch, writers, and by which epochs each has taken addresses.
type node struct {
	c     *scene
	later *token.Sequencer // of the next epoch; nil, if it isn't come yet
	ws    []writer.Writer
	takes []string
}

// twin is a node that holds the same, and shares nothing.
func (n *node) twin(t *testing.T) *node {
	m := &node{c: n.c.twin(t), ws: slices.Clone(n.ws), takes: slices.Clone(n.takes)}
	if n.later != nil {
		m.later = n.later.Copy()
	}
	return m
}

// key is all of a node that counts. (A page is told by its writer's entry, address and epoch, as both writers have the same streams.)
func (n *node) key(t *testing.T) string {
	key := strconv.Itoa(next(t, n.c.s))
	if n.later != nil {
		key += " then " + strconv.Itoa(next(t, n.later)) + " of " + strconv.Itoa(len(n.later.Backs()))
	}
	for i := range n.ws {
		w := &n.ws[i]
		key += "; " + strconv.Itoa(w.State()) + " " + strconv.Itoa(w.Address()) + " " + strconv.Itoa(w.Copies()) + " " + text(w.Err()) + " " + n.takes[i]
	}
	for _, u := range n.c.all {
		key += "; " + strconv.Itoa(u.Epoch()) + " " + strconv.Itoa(u.Trimmed())
		for at := 4090; at < 4096; at++ {
			if u.Has(at) {
				b, err := u.Read(1<<30, at)
				must(t, err)
				key += " " + strconv.Itoa(at) + string(b)
			}
		}
	}
	return key
}

// A deed is something that happens to a node: by a writer that goes on (-1: by somebody else), and by units of which some may be down, or all are up.
type deed struct {
	name string
	by   int
	down bool
	do   func(n *node, us chain.Units)
}

// deeds is all that may happen to a chain of some units, by two epochs, at addresses from some one on.
func deeds(copies, from int) []deed {
	var all []deed
	for epoch := 1; epoch <= 2; epoch++ {
		p := sized(epoch, copies)
		for i := range 2 {
			all = append(all, deed{"Step " + strconv.Itoa(i) + " by " + strconv.Itoa(epoch), i, true, func(n *node, us chain.Units) {
				s := n.c.s
				if epoch == 2 && n.later != nil {
					s = n.later
				}
				before := toldSoFar(n)
				n.ws[i].Step(us, p, s)
				if toldSoFar(n) != before {
					n.takes[i] += strconv.Itoa(epoch)
				}
			}})
		}
	}
	// By the later epoch, as that does whatever the elder one does. (Where a unit refuses that one, it is as if it were down.)
	p := sized(2, copies)
	for a := from; a < from+2; a++ {
		all = append(all,
			deed{"Fill " + strconv.Itoa(a), -1, true, func(n *node, us chain.Units) { chain.Fill(us, p, a) }},
			deed{"Read " + strconv.Itoa(a), -1, true, func(n *node, us chain.Units) { chain.Read(us, p, a) }})
	}
	for i := range copies {
		all = append(all, deed{"Seal " + strconv.Itoa(i), -1, false, func(n *node, us chain.Units) { us[i].Seal(2) }})
	}
	return append(all, deed{"a sequencer", -1, false, func(n *node, us chain.Units) {
		elder := func(u *unit.Unit) bool { return u.Epoch() < 2 }
		if n.later == nil && !slices.ContainsFunc(us, elder) {
			tail, _ := chain.Tail(us, p)
			n.later, _ = token.New(2, max(tail, from), nil)
		}
	}})
}

// toldSoFar is a number that grows with each address that a sequencer tells.
func toldSoFar(n *node) int {
	a, _ := n.c.s.Next(1)
	if n.later == nil {
		return a
	}
	b, _ := n.later.Next(2)
	return a + b
}

// holds holds what is read at the addresses of writers that are done: how many there are.
func (n *node) holds(t *testing.T, name string) int {
	m := n.twin(t)
	done := 0
	for i := range m.ws {
		w := &m.ws[i]
		if w.State() != writer.Done {
			continue
		}
		done++
		b, err := chain.Read(m.c.all, sized(2, len(m.c.all)), w.Address())
		must(t, err)
		e, _, err := page.Read(b)
		if err != nil || !entry.Same(e, w.Entry()) {
			t.Fatalf("behind %s of %s: at %d there is %q, %v", name, n.key(t), w.Address(), b, err)
		}
	}
	if done == 2 && m.ws[0].Address() == m.ws[1].Address() {
		t.Fatalf("behind %s of %s: both are done at one address", name, n.key(t))
	}
	return done
}

// firstNode is two writers, and a log that has room for so many addresses.
func firstNode(t *testing.T, copies, room int) *node {
	t.Helper()
	n := &node{c: newScene(t, 1, copies, 1), takes: make([]string, 2)}
	n.c.s = sequencer(t, 1, 4096-room)
	for shard := 1; shard <= 2; shard++ {
		w, err := writer.New(api.Entry{Kind: api.Merge, Shard: shard, Other: 3 - shard})
		must(t, err)
		n.ws = append(n.ws, *w)
	}
	return n
}

// follow is the nodes that a deed makes of one, over all choices of units that are down.
func (n *node) follow(t *testing.T, d deed) []*node {
	if d.by >= 0 && n.ws[d.by].State() > writer.Writing {
		return nil
	}
	choices := 1
	if d.down {
		choices <<= len(n.c.all)
	}
	var all []*node
	for down := range choices {
		m := n.twin(t)
		for i := range m.c.up {
			m.c.up[i] = down>>i&1 == 0
		}
		d.do(m, m.c.us())
		all = append(all, m)
	}
	return all
}

func TestDoneIsRead(t *testing.T) {
	for _, k := range []struct{ copies, room, nodes int }{{1, 3, 3000}, {2, 2, 10000}} {
		t.Run(strconv.Itoa(k.copies), func(t *testing.T) {
			t.Parallel()
			all := deeds(k.copies, 4096-k.room)
			first := firstNode(t, k.copies, k.room)
			seen := map[string]bool{first.key(t): true}
			done := [3]int{}
			for rest := []*node{first}; len(rest) > 0; rest = rest[1:] {
				for _, d := range all {
					for _, n := range rest[0].follow(t, d) {
						key := n.key(t)
						if seen[key] {
							continue
						}
						seen[key] = true
						rest = append(rest, n)
						done[n.holds(t, d.name)]++
					}
				}
			}
			if len(seen) < k.nodes || done[1] < 100 || done[2] < 10 {
				t.Errorf("just %d states, with so many done writers: %v", len(seen), done)
			}
		})
	}
}

// P15.2: also where units lose their power in the midst of steps, and are opened anew.

// A plant is units, their devices, a plan, and writers: those that go on, and those that are done.
type plant struct {
	r    *rand.Rand
	c    *scene
	p    plan.Plan
	on   []*writer.Writer
	done []*writer.Writer
	trim int // up to there it may be trimmed
	lost int // how often a unit lost its power
}

// newPlant is a plant of one of several shapes.
func newPlant(t *testing.T, n int) *plant {
	t.Helper()
	p := sized(0, shapes()[n%len(shapes())]...)
	return &plant{r: rand.New(rand.NewSource(int64(n))), c: newScene(t, 0, len(plan.Units(p)), 12), p: p}
}

// thrownEntry is a right entry that chance makes.
func (l *plant) thrownEntry() api.Entry {
	all, _ := kinds()
	e := all[l.r.Intn(len(all))]
	e.Seq, e.Upto, e.Key = 1+l.r.Intn(1<<30), l.r.Intn(4097), strconv.Itoa(l.r.Intn(1000))
	e.Part, e.Server = l.r.Intn(64), 1+l.r.Intn(4)
	return e
}

// goes lets one of some writers do a step, or others do something.
func (l *plant) goes(t *testing.T) {
	t.Helper()
	tail := next(t, l.c.s)
	switch l.r.Intn(16) {
	case 0:
		chain.Fill(l.c.us(), l.p, l.r.Intn(tail+2))
	case 1:
		chain.Read(l.c.us(), l.p, l.r.Intn(tail+1))
	case 2:
		if l.r.Intn(8) == 0 {
			l.trim = max(l.trim, tail/2)
			chain.Trim(l.c.us(), l.p, l.trim)
		}
	case 3, 4:
		w, err := writer.New(l.thrownEntry())
		must(t, err)
		l.on = append(l.on, w)
	default:
		l.steps()
	}
}

// steps lets a writer do a step, and takes it out at its end.
func (l *plant) steps() {
	if len(l.on) == 0 {
		return
	}
	i := l.r.Intn(len(l.on))
	w := l.on[i]
	switch w.Step(l.c.us(), l.p, l.c.s) {
	case writer.Done:
		l.done = append(l.done, w)
		fallthrough
	case writer.Failed:
		l.on = slices.Delete(l.on, i, i+1)
	}
}

// power stops devices at some time, takes out the units of those that are down, and opens some anew.
func (l *plant) power(t *testing.T) {
	t.Helper()
	if l.r.Intn(8) == 0 {
		l.c.ds[l.r.Intn(len(l.c.ds))].Stop(l.r.Intn(12))
	}
	for i, d := range l.c.ds {
		if !d.Down() {
			continue
		}
		l.c.up[i] = false
		if l.r.Intn(4) == 0 {
			l.opens(t, i, d)
		}
	}
}

// opens crashes a unit's device, by chance as to what is kept, and opens it anew.
func (l *plant) opens(t *testing.T, i int, d *disk.Device) {
	t.Helper()
	d.Crash(l.r.Uint64(), l.r.Intn(70)-2, l.r.Intn(65))
	u, err := unit.Open(d)
	must(t, err)
	l.c.all[i], l.c.up[i] = u, true
	l.lost++
}

// holds holds what is read at the addresses of all that are done.
func (l *plant) holds(t *testing.T) {
	t.Helper()
	at := map[int]bool{}
	for _, w := range l.done {
		b, err := chain.Read(l.c.us(), l.p, w.Address())
		if err == api.ErrDown || w.Address() < l.trim && err == api.ErrTrimmed {
			continue
		}
		must(t, err)
		e, _, err := page.Read(b)
		if err != nil || !entry.Same(e, w.Entry()) || at[w.Address()] {
			t.Fatalf("at %d there is %v, %v, not %v", w.Address(), e, err, w.Entry())
		}
		at[w.Address()] = true
	}
}

func TestDoneIsReadOverLosses(t *testing.T) {
	for n := range 120 {
		t.Run(strconv.Itoa(n), func(t *testing.T) {
			t.Parallel()
			l := newPlant(t, n)
			for i := range 400 {
				l.goes(t)
				l.power(t)
				if i%40 == 0 {
					l.holds(t)
				}
			}
			for i, d := range l.c.ds {
				l.opens(t, i, d)
			}
			l.holds(t)
			if len(l.done) < 5 || l.lost < 2*len(l.c.ds) {
				t.Errorf("just %d writers are done, and %d times the power went", len(l.done), l.lost)
			}
		})
	}
}

// P15.2: unless it is trimmed.

func TestDoneIsTrimmed(t *testing.T) {
	for _, sizes := range shapes() {
		c, p := newScene(t, 0, 8, 1), sized(0, sizes...)
		for a := range 6 {
			at, err := writer.Append(c.all, p, c.s, api.Entry{Kind: api.Move, Shard: a + 1, Server: 1})
			if at != a || err != nil {
				t.Fatalf("Append answers %d, %v", at, err)
			}
		}
		must(t, chain.Trim(c.all, p, 4))
		for a := range 6 {
			b, err := chain.Read(c.all, p, a)
			e, _, _ := page.Read(b)
			if a < 4 && err != api.ErrTrimmed || a >= 4 && (err != nil || e.Shard != a+1) {
				t.Errorf("at %d there is %v, %v", a, e, err)
			}
		}
	}
}
