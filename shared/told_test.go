package shared_test

import (
	"fmt"
	"slices"
	"strconv"
	"testing"

	"tidewater/api"
	"tidewater/chain"
	"tidewater/entry"
	"tidewater/plan"
	"tidewater/shared"
	"tidewater/token"
	"tidewater/unit"
	"tidewater/writer"
)

// P17.2: what Page told of an address it tells again, over all orders of calls, of a writer's steps and of what befalls units, however long: each state that they come by is looked at once. The log has room for just a few addresses more, so the states come to an end.

// A node is all that there is at some time.
type node struct {
	c       *scene           // its sequencer is of epoch 1
	later   *token.Sequencer // of epoch 2; nil, if it isn't come yet
	w       writer.Writer
	takes   string         // by which epochs it has taken addresses
	told    map[int]string // what was told, by address
	trimmed int            // up to there somebody has begun to trim
}

// twin is a node that holds the same, and shares nothing.
func (n *node) twin(t *testing.T) *node {
	m := &node{c: n.c.twin(t), w: n.w, takes: n.takes, told: map[int]string{}, trimmed: n.trimmed}
	if n.later != nil {
		m.later = n.later.Copy()
	}
	for a, text := range n.told {
		m.told[a] = text
	}
	return m
}

// key is all of a node that counts.
func (n *node) key(t *testing.T) string {
	key := fmt.Sprint(heldBy(n.c.s), heldBy(n.later), n.w.State(), n.w.Address(), n.w.Copies(), n.w.Err(), n.takes, n.told, n.trimmed)
	for _, u := range n.c.all {
		key += fmt.Sprint("; ", u.Epoch(), u.Trimmed())
		for at := 4093; at < 4096; at++ {
			if u.Has(at) {
				b, err := u.Read(1<<30, at)
				must(t, err)
				key += fmt.Sprint(" ", at, b)
			}
		}
	}
	return key
}

// log is the log of an epoch, over units.
func (n *node) log(epoch int, us chain.Units) *shared.Log {
	s := n.c.s
	if epoch == 2 && n.later != nil {
		s = n.later
	}
	return shared.New(us, plan.Plan{Epoch: epoch, Chains: n.c.p.Chains}, s)
}

// tells holds what a log tells of an address against what was told of it, and keeps it.
func (n *node) tells(t *testing.T, p shared.Page) {
	t.Helper()
	text := fmt.Sprintf("%+v", p)
	if before, is := n.told[p.At]; is && before != text {
		t.Fatalf("at %d it told %s, and now %s", p.At, before, text)
	}
	n.told[p.At] = text
}

// A deed is something that happens to a node, by units of which some may be down, or all are up.
type deed struct {
	name string
	down bool
	do   func(t *testing.T, n *node, us chain.Units)
}

// paged is that Page is asked, and has to tell what it told.
func paged(epoch, a int) deed {
	return deed{fmt.Sprintf("Page(%d) by %d", a, epoch), true, func(t *testing.T, n *node, us chain.Units) {
		if p, err := n.log(epoch, us).Page(a); err == nil {
			n.tells(t, p)
		}
	}}
}

// listed is that Pages are asked, which have to be those that Page told.
func listed(epoch, from int) deed {
	return deed{fmt.Sprintf("Pages by %d", epoch), true, func(t *testing.T, n *node, us chain.Units) {
		l := n.log(epoch, us)
		tail, _ := l.Tail()
		all, _ := l.Pages(from, tail)
		for _, p := range all {
			n.tells(t, p)
		}
	}}
}

// trims is that the log is trimmed.
func trims(to int) deed {
	return deed{fmt.Sprintf("Trim(%d)", to), true, func(t *testing.T, n *node, us chain.Units) {
		l := n.log(2, us)
		if tail, err := l.Tail(); err == nil && to <= tail {
			n.trimmed = max(n.trimmed, to)
		}
		l.Trim(to)
	}}
}

// steps is a step of the writer.
func steps(epoch int) deed {
	return deed{fmt.Sprintf("Step by %d", epoch), true, func(t *testing.T, n *node, us chain.Units) {
		s := n.c.s
		if epoch == 2 && n.later != nil {
			s = n.later
		}
		before := heldBy(s)
		n.w.Step(us, plan.Plan{Epoch: epoch, Chains: n.c.p.Chains}, s)
		if heldBy(s) != before {
			n.takes += strconv.Itoa(epoch)
		}
	}}
}

// deeds is all that may happen to a chain of some units, by two epochs, at addresses from some one on.
func deeds(copies, from int) []deed {
	var all []deed
	for epoch := 1; epoch <= 2; epoch++ {
		all = append(all, paged(epoch, from), steps(epoch))
	}
	all = append(all, paged(2, from+1), listed(2, from), trims(from+1), trims(from+2), deed{"Append", true, func(t *testing.T, n *node, us chain.Units) {
		n.log(1, us).Append(entryOf(5))
	}})
	for i := range copies {
		all = append(all, deed{"Seal " + strconv.Itoa(i), false, func(t *testing.T, n *node, us chain.Units) { us[i].Seal(2) }})
	}
	return append(all, deed{"a sequencer", false, func(t *testing.T, n *node, us chain.Units) {
		elder := func(u *unit.Unit) bool { return u.Epoch() < 2 }
		if n.later == nil && !slices.ContainsFunc(us, elder) {
			tail, err := chain.Tail(us, n.c.p)
			must(t, err)
			n.later = sequencer(t, 2, max(tail, from))
		}
	}})
}

// firstNode is a writer, and a log that is trimmed up to where it has room for so many addresses.
func firstNode(t *testing.T, copies, room int) *node {
	t.Helper()
	var chain []int
	for i := range copies {
		chain = append(chain, i)
	}
	n := &node{c: newScene(t, by(1, chain), copies, 1), told: map[int]string{}, trimmed: 4096 - room}
	n.c.s = sequencer(t, 1, 4096-room)
	must(t, n.c.log().Trim(4096-room))
	w, err := writer.New(merge())
	must(t, err)
	n.w = *w
	return n
}

// follow is the nodes that a deed makes of one, over all choices of units that are down.
func (n *node) follow(t *testing.T, d deed) []*node {
	choices := 1
	if d.down {
		choices <<= len(n.c.all)
	}
	var all []*node
	for down := range choices {
		m := n.twin(t)
		for i := range m.c.up {
			m.c.up[i] = down>>i&1 == 0
		}
		d.do(t, m, m.c.us())
		all = append(all, m)
	}
	return all
}

// holds holds what all units, being up, tell of what was told: how much there is.
func (n *node) holds(t *testing.T, name string) int {
	t.Helper()
	m := n.twin(t)
	l := m.log(2, m.c.all)
	for a := range n.told {
		p, err := l.Page(a)
		if err == api.ErrTrimmed && a < n.trimmed {
			continue
		}
		if err != nil {
			t.Fatalf("behind %s of %s: at %d there is %v", name, n.key(t), a, err)
		}
		m.tells(t, p)
	}
	if w := n.w; w.State() == writer.Done && m.told[w.Address()] != "" {
		p, err := l.Page(w.Address())
		if err == nil && !entry.Same(p.Entry, merge()) {
			t.Fatalf("behind %s of %s: at %d there is %v", name, n.key(t), w.Address(), p)
		}
	}
	return len(n.told)
}

func TestToldAgain(t *testing.T) {
	for _, k := range []struct{ copies, room, nodes int }{{1, 2, 3000}, {2, 2, 8000}, {3, 1, 900}} {
		t.Run(strconv.Itoa(k.copies), func(t *testing.T) {
			t.Parallel()
			all := deeds(k.copies, 4096-k.room)
			first := firstNode(t, k.copies, k.room)
			seen := map[string]bool{first.key(t): true}
			told := make([]int, k.room+1)
			for rest := []*node{first}; len(rest) > 0; rest = rest[1:] {
				for _, d := range all {
					for _, n := range rest[0].follow(t, d) {
						key := n.key(t)
						if seen[key] {
							continue
						}
						seen[key] = true
						rest = append(rest, n)
						told[n.holds(t, d.name)]++
					}
				}
			}
			if len(seen) < k.nodes || told[k.room] < 300 {
				t.Errorf("just %d states, in which so much was told: %v", len(seen), told)
			}
		})
	}
}
