package chain_test

import (
	"math/rand"
	"slices"
	"strconv"
	"strings"
	"testing"

	"tidewater/api"
	"tidewater/chain"
	"tidewater/disk"
	"tidewater/plan"
	"tidewater/unit"
)

// P14.2: what was told of an address stays so, over all rows of calls at it, however long: each state that they come by is looked at once.

// A node is units as calls have left them, and the page that was told of address 1 ("": none yet).
type node struct {
	images [][]byte
	told   string
}

// opened is a node's units.
func (n node) opened(t *testing.T) (chain.Units, []*disk.Device) {
	t.Helper()
	var us chain.Units
	var ds []*disk.Device
	for _, image := range n.images {
		d, err := disk.From(image)
		must(t, err)
		ds, us = append(ds, d), append(us, open(t, d))
	}
	return us, ds
}

// key is all of a node that shows.
func (n node) key(us chain.Units) string {
	text := signs(us) + " " + n.told
	for _, u := range us {
		text += " " + strconv.Itoa(u.Epoch())
	}
	return text
}

// A move is a call, and the page that it tells ("": none).
type move struct {
	name string
	do   func(us chain.Units) (string, error)
}

// moves is all calls that may be done at address 1 of a chain of so many copies, by an epoch.
func moves(count, epoch int) []move {
	p := sized(epoch, 0, 1, count)
	text := func(b []byte, err error) (string, error) { return string(b), err }
	all := []move{
		{"Read", func(us chain.Units) (string, error) { return text(chain.Read(us, p, 1)) }},
		{"Fill", func(us chain.Units) (string, error) { return text(chain.Fill(us, p, 1)) }},
		{"Trim", func(us chain.Units) (string, error) { return "", chain.Trim(us, p, 2) }},
	}
	for _, b := range []string{"x", "y"} {
		all = append(all, move{"Write " + b, func(us chain.Units) (string, error) { return b, chain.Write(us, p, 1, []byte(b)) }})
		all = append(all, move{"Others " + b, func(us chain.Units) (string, error) {
			return "", chain.Others(us, epoch, p.Chains[0], 1, []byte(b))
		}})
		for k := range count {
			all = append(all, move{"Step " + strconv.Itoa(k) + " " + b, func(us chain.Units) (string, error) {
				return "", chain.Step(us, p, 1, k, []byte(b))
			}})
		}
	}
	return all
}

// sealing is a unit that is sealed by an epoch.
func sealing(number, epoch int) move {
	return move{"Seal " + strconv.Itoa(number), func(us chain.Units) (string, error) {
		if us[number] == nil {
			return "", api.ErrDown
		}
		_, err := us[number].Seal(epoch)
		return "", err
	}}
}

// follow is the node behind a move that was done while some units were down (by bits).
func (n node) follow(t *testing.T, m move, down int) (node, chain.Units) {
	t.Helper()
	all, ds := n.opened(t)
	us := slices.Clone(all)
	for i := range us {
		if down>>i&1 == 1 {
			us[i] = nil
		}
	}
	next := node{told: n.told}
	b, err := m.do(us)
	if err == nil && b != "" {
		if n.told != "" && b != n.told {
			t.Fatalf("%s of %s, down %b: %q", m.name, n.key(all), down, b)
		}
		next.told = b
	}
	for _, d := range ds {
		next.images = append(next.images, d.Image())
	}
	return next, all
}

// stays holds what is read of a node's last unit, as long as it isn't trimmed, against what was told.
func (n node) stays(t *testing.T, us chain.Units, m move) {
	t.Helper()
	if n.told == "" || us[len(us)-1].Trimmed() > 0 {
		return
	}
	alone := make(chain.Units, len(us))
	alone[len(us)-1] = us[len(us)-1]
	if b, err := chain.Read(alone, sized(2, 0, 1, len(us)), 1); err != nil || string(b) != n.told {
		t.Fatalf("behind %s of %s: Read answers %q, %v", m.name, n.key(us), b, err)
	}
}

func TestToldStays(t *testing.T) {
	for _, k := range []struct {
		count, nodes int
		seals        bool
	}{{1, 12, true}, {2, 100, true}, {3, 90, false}} {
		t.Run(strconv.Itoa(k.count), func(t *testing.T) {
			t.Parallel()
			all := moves(k.count, 1)
			if k.seals {
				all = append(all, moves(k.count, 2)...)
				for number := range k.count {
					all = append(all, sealing(number, 2))
				}
			}
			us, ds := fresh(t, k.count, 1)
			first := node{}
			for _, d := range ds {
				first.images = append(first.images, d.Image())
			}
			seen := map[string]bool{first.key(us): true}
			for rest := []node{first}; len(rest) > 0; rest = rest[1:] {
				for _, m := range all {
					for down := range 1 << k.count {
						next, us := rest[0].follow(t, m, down)
						if key := next.key(us); !seen[key] {
							next.stays(t, us, m)
							seen[key] = true
							rest = append(rest, next)
						}
					}
				}
			}
			if len(seen) < k.nodes {
				t.Errorf("just %d states", len(seen))
			}
		})
	}
}

// P14.2: what was told of an address stays so, also where units lose their power in the midst of calls, and are opened anew.

// A plant is units, their devices, and what was told of their log.
type plant struct {
	r    *rand.Rand
	us   chain.Units // nil: its device is down
	ds   []*disk.Device
	p    plan.Plan
	told map[int]string
	from int // the log goes on: calls are done from about there on
	trim int // up to there it may be trimmed
	all  int // how many pages were told
	lost int // how often a unit lost its power
}

// newPlant is a plant of one of several shapes.
func newPlant(t *testing.T, n int) *plant {
	t.Helper()
	p := sized(0, 0, 1, shapes()[n%len(shapes())]...)
	us, ds := fresh(t, len(plan.Units(p)), 8)
	return &plant{r: rand.New(rand.NewSource(int64(n))), us: us, ds: ds, p: p, told: map[int]string{}}
}

// hears holds a page that is told against what was told before.
func (l *plant) hears(t *testing.T, what string, a int, b string) {
	t.Helper()
	if before, is := l.told[a]; is && before != b {
		t.Fatalf("%s of %d: %s, not %s", what, a, brief(b), brief(before))
	}
	l.told[a] = b
	l.all++
}

// calls does one call that chance makes.
func (l *plant) calls(t *testing.T) {
	t.Helper()
	if l.r.Intn(8) == 0 {
		l.from++
	}
	a := l.from + l.r.Intn(6)
	if l.r.Intn(4) == 0 {
		a = l.r.Intn(a + 1)
	}
	text := strings.Repeat(strconv.Itoa(l.r.Intn(1000))+" ", 1+l.r.Intn(100))
	switch l.r.Intn(16) {
	case 0, 1, 2:
		if err := chain.Write(l.us, l.p, a, []byte(text)); err == nil {
			l.hears(t, "Write", a, text)
		}
	case 3, 4, 5:
		chain.Step(l.us, l.p, a, 0, []byte(text))
	case 6:
		chain.Step(l.us, l.p, a, 1, []byte(text))
	case 7, 8, 9:
		if b, err := chain.Fill(l.us, l.p, a); err == nil {
			l.hears(t, "Fill", a, string(b))
		}
	case 10:
		if l.r.Intn(4) == 0 {
			l.trim = max(l.trim, l.from/2)
			chain.Trim(l.us, l.p, l.trim)
		}
	default:
		if b, err := chain.Read(l.us, l.p, a); err == nil {
			l.hears(t, "Read", a, string(b))
		}
	}
}

// power stops devices at some time, takes out the units of those that are down, and opens some anew.
func (l *plant) power(t *testing.T) {
	t.Helper()
	if l.r.Intn(5) == 0 {
		l.ds[l.r.Intn(len(l.ds))].Stop(l.r.Intn(12))
	}
	for i, d := range l.ds {
		if !d.Down() {
			continue
		}
		l.us[i] = nil
		if l.r.Intn(8) == 0 {
			l.opens(t, i)
		}
	}
}

// opens crashes a unit's device, by chance as to what is kept, and opens it anew.
func (l *plant) opens(t *testing.T, i int) {
	t.Helper()
	l.ds[i].Crash(l.r.Uint64(), l.r.Intn(70)-2, l.r.Intn(65))
	u, err := unit.Open(l.ds[i])
	must(t, err)
	l.us[i] = u
	l.lost++
}

func TestToldStaysOverLosses(t *testing.T) {
	for n := range 160 {
		t.Run(strconv.Itoa(n), func(t *testing.T) {
			t.Parallel()
			l := newPlant(t, n)
			for range 400 {
				l.calls(t)
				l.power(t)
			}
			for i := range l.ds {
				l.opens(t, i)
			}
			for a, want := range l.told {
				b, err := chain.Read(l.us, l.p, a)
				if err != nil && !(a < l.trim && err == api.ErrTrimmed) || err == nil && string(b) != want {
					t.Errorf("Read of %d at last: %s, %v, not %s", a, brief(string(b)), err, brief(want))
				}
			}
			if l.all < 20 || l.lost < 2*len(l.ds) {
				t.Errorf("just %d pages were told, and %d times the power went", l.all, l.lost)
			}
		})
	}
}
