package recon_test

import (
	"maps"
	"slices"
	"strconv"
	"testing"

	"tidewater/api"
	"tidewater/chain"
	"tidewater/entry"
	"tidewater/page"
	"tidewater/plan"
	"tidewater/recon"
	"tidewater/token"
	"tidewater/writer"
)

// P16.2: what holds when a way is done, over all orders of steps of a writer, of ways, and of what others do, however long: each state that they come by is looked at once. (Others touch few addresses, so the states come to an end.)

// A node is all that there is at some time.
type node struct {
	c     *scene
	p     plan.Plan
	s     *token.Sequencer // of the plan ahead
	w     writer.Writer
	ways  []recon.Recon
	steps []int
	read  map[int]string // what was read by the plan ahead
	trim  int            // up to there it may be trimmed
}

// twin is a node that holds the same, and shares nothing that changes.
func (n *node) twin(t *testing.T) *node {
	m := *n
	m.c, m.s = n.c.twin(t), n.s.Copy()
	m.ways, m.steps, m.read = slices.Clone(n.ways), slices.Clone(n.steps), maps.Clone(n.read)
	return &m
}

// key is all of a node that counts. (What a way has done is told by how many steps that were, and by what units have.)
func (n *node) key(t *testing.T) string {
	next, err := n.s.Next(n.p.Epoch)
	must(t, err)
	key := numbers(next, n.w.State(), n.w.Address(), n.w.Copies(), n.trim, n.c.b.Known()) + text(n.w.Err())
	for i := range n.ways {
		key += ";" + numbers(n.ways[i].State(), n.steps[i]) + text(n.ways[i].Err())
	}
	for _, u := range n.c.all {
		key += ";" + numbers(u.Epoch(), u.Trimmed())
		for at := range 4 {
			if b, err := u.Read(1<<30, at); err == nil {
				key += strconv.Itoa(at) + string(b)
			}
		}
	}
	for at := range 4 {
		key += ";" + n.read[at]
	}
	return key
}

// An act is something that happens to a node, by units of a plan, of which one may be down.
type act struct {
	name string
	p    plan.Plan
	do   func(n *node, us chain.Units)
}

// acts is all that may happen to a node.
func acts(n *node) []act {
	all := []act{
		{"writer", n.p, func(n *node, us chain.Units) { n.w.Step(us, n.p, n.s) }},
		{"Trim", n.p, func(n *node, us chain.Units) {
			n.trim = 1
			chain.Trim(us, n.p, 1)
		}},
	}
	for a := range 2 {
		all = append(all,
			act{"Fill " + strconv.Itoa(a), n.p, func(n *node, us chain.Units) { chain.Fill(us, n.p, a) }},
			act{"Read " + strconv.Itoa(a), n.p, func(n *node, us chain.Units) {
				if b, err := chain.Read(us, n.p, a); err == nil {
					n.read[a] = string(b)
				}
			}})
	}
	for i := range n.ways {
		all = append(all, act{"way " + strconv.Itoa(i), n.ways[i].Next(), func(n *node, us chain.Units) {
			if n.ways[i].State() < recon.Done {
				n.steps[i]++
				n.ways[i].Step(us, n.c.b)
			}
		}})
	}
	return all
}

// kept holds what is kept by a next plan, when the way to it is done.
func kept(t *testing.T, name string, us chain.Units, p plan.Plan, read map[int]string, trim int) {
	t.Helper()
	if wrong := refuses(us, p); wrong != "" {
		t.Fatalf("%s: %s", name, wrong)
	}
	if wrong := differ(us, p); wrong != "" {
		t.Fatalf("%s: %s", name, wrong)
	}
	for a, want := range read {
		if b, err := chain.Read(us, p, a); string(b) != want && (err != api.ErrTrimmed || a >= trim) {
			t.Fatalf("%s: at %d %q was read, now there is %q, %v", name, a, want, b, err)
		}
	}
}

// tells holds a plan's sequencer against the log: no page is behind its next address, and of streams it has what is there.
func tells(t *testing.T, name string, us chain.Units, p plan.Plan, s *token.Sequencer) {
	t.Helper()
	want, err := scans(us, p)
	must(t, err)
	if wrong := alike(s, want); wrong != "" {
		t.Fatalf("%s: %s", name, wrong)
	}
	next, err := s.Next(p.Epoch)
	must(t, err)
	for c, row := range p.Chains {
		for _, i := range row {
			if last := (us[i].Tail()-1)*len(p.Chains) + c; us[i].Tail() > 0 && last >= next {
				t.Fatalf("%s: unit %d has something at %d, the next address is %d", name, i, last, next)
			}
		}
	}
}

// refuses is which unit of a plan doesn't refuse a lower epoch.
func refuses(us chain.Units, p plan.Plan) string {
	for _, i := range slices.Concat(p.Chains...) {
		for _, epoch := range []int{0, p.Epoch / 2, p.Epoch - 1} {
			_, read := us[i].Read(epoch, 0)
			_, sealed := us[i].Seal(epoch)
			for _, err := range []error{read, sealed, us[i].Write(epoch, 3000, []byte("x")), us[i].Trim(epoch, 0)} {
				if err != api.ErrSealed {
					return "unit " + strconv.Itoa(i) + " answers epoch " + strconv.Itoa(epoch) + ": " + text(err)
				}
			}
		}
	}
	return ""
}

// differ is which units of one chain don't have the same pages.
func differ(us chain.Units, p plan.Plan) string {
	for _, row := range p.Chains {
		for _, i := range row[1:] {
			u, v := us[row[0]], us[i]
			for at := range max(u.Tail(), v.Tail()) {
				a, errA := u.Read(p.Epoch, at)
				b, errB := v.Read(p.Epoch, at)
				if errA != errB || string(a) != string(b) {
					return "at " + strconv.Itoa(at) + " unit " + strconv.Itoa(row[0]) + " has " + strconv.Quote(string(a)) + ", " + text(errA) + ", unit " + strconv.Itoa(i) + " " + strconv.Quote(string(b)) + ", " + text(errB)
				}
			}
		}
	}
	return ""
}

// holds holds what is to hold of a node's ways that are done, one at most.
func (n *node) holds(t *testing.T, name string) bool {
	done := 0
	for i := range n.ways {
		r := &n.ways[i]
		if r.State() != recon.Done {
			continue
		}
		done++
		kept(t, name, n.c.all, r.Next(), n.read, n.trim)
		m := n.twin(t)
		tells(t, name, m.c.all, r.Next(), r.Sequencer())
		if w := &m.w; w.State() == writer.Done {
			b, err := chain.Read(m.c.all, r.Next(), w.Address())
			e, _, wrong := page.Read(b)
			if (wrong != nil || !entry.Same(e, w.Entry())) && (err != api.ErrTrimmed || w.Address() >= n.trim) {
				t.Fatalf("%s: at %d there is %q, %v", name, w.Address(), b, err)
			}
		}
	}
	if done > 1 {
		t.Fatalf("%s: two ways are done", name)
	}
	return done == 1
}

// follow is the nodes that an act makes of one, with no unit down, or one. (Where there are several ways, none goes down: of those that don't go on one has as good as failed.)
func (n *node) follow(t *testing.T, a act) []*node {
	downs := append(plan.Units(a.p), -1)
	if len(n.ways) > 1 {
		downs = []int{-1}
	}
	var all []*node
	for _, down := range downs {
		m := n.twin(t)
		us := slices.Clone(m.c.all)
		if down >= 0 {
			us[down] = nil
		}
		a.do(m, us)
		all = append(all, m)
	}
	return all
}

// failed tells whether no way may be done any more.
func (n *node) failed() bool {
	return !slices.ContainsFunc(n.ways, func(r recon.Recon) bool { return r.State() != recon.Failed })
}

// A replacement is which units go, and which one comes.
type replacement struct {
	gone  []int
	fresh int
}

// firstNode is a new log of a plan, a writer, and ways from that plan.
func firstNode(t *testing.T, p plan.Plan, units int, ways ...replacement) *node {
	t.Helper()
	s, err := token.New(p.Epoch, 0, nil)
	must(t, err)
	w, err := writer.New(entryOf(0, 1))
	must(t, err)
	n := &node{c: newScene(t, p, units, 1), p: p, s: s, w: *w, read: map[int]string{}}
	for i, k := range ways {
		r, err := recon.New(p, k.gone, k.fresh, i)
		must(t, err)
		n.ways, n.steps = append(n.ways, *r), append(n.steps, 0)
	}
	return n
}

func TestAllOrders(t *testing.T) {
	one, two, both := by(1, []int{0}), by(1, []int{0, 1}), by(1, []int{0}, []int{1})
	for i, k := range []struct {
		p     plan.Plan
		units int
		ways  []replacement
	}{
		{one, 1, []replacement{{nil, -1}}},
		{one, 2, []replacement{{nil, 1}}},
		{two, 2, []replacement{{nil, -1}}},
		{two, 2, []replacement{{[]int{0}, -1}}},
		{two, 2, []replacement{{[]int{1}, -1}}},
		{two, 3, []replacement{{nil, 2}}},
		{two, 3, []replacement{{[]int{0}, 2}}},
		{two, 3, []replacement{{[]int{1}, 2}}},
		{both, 2, []replacement{{nil, -1}}},
		{both, 3, []replacement{{nil, 2}}},
		{one, 2, []replacement{{nil, 1}, {nil, -1}}},
		{two, 2, []replacement{{nil, -1}, {[]int{1}, -1}}},
		{two, 3, []replacement{{[]int{0}, 2}, {[]int{0}, -1}}},
	} {
		t.Run(strconv.Itoa(i), func(t *testing.T) {
			t.Parallel()
			first := firstNode(t, k.p, k.units, k.ways...)
			seen, done := map[string]bool{first.key(t): true}, 0
			for rest := []*node{first}; len(rest) > 0; rest = rest[1:] {
				for _, a := range acts(rest[0]) {
					for _, n := range rest[0].follow(t, a) {
						key := n.key(t)
						if seen[key] {
							continue
						}
						seen[key] = true
						if n.holds(t, a.name) {
							done++
						}
						if !n.failed() {
							rest = append(rest, n)
						}
					}
				}
			}
			if len(seen) < 1500 || done < 200 {
				t.Errorf("just %d states, in %d of which a way is done", len(seen), done)
			}
			t.Logf("%d states, in %d of which a way is done", len(seen), done)
		})
	}
}
