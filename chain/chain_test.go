package chain_test

import (
	"math/rand"
	"slices"
	"strconv"
	"strings"
	"testing"

	"tidewater/api"
	"tidewater/chain"
	"tidewater/page"
	"tidewater/plan"
)

// shelves is so many shelves without anything.
func shelves(count int) rack {
	var r rack
	for range count {
		r = append(r, newShelf())
	}
	return r
}

// P14.1: the chapter's example.

func TestExample(t *testing.T) {
	us, _ := fresh(t, 2, 1)
	p := sized(0, 0, 1, 2)
	if b, err := chain.Fill(us, p, 0); err != nil || !page.IsJunk(b) {
		t.Errorf("Fill: %q, %v", b, err)
	}
	if err := chain.Write(us, p, 0, []byte("x")); err != api.ErrWritten {
		t.Errorf("Write: %v", err)
	}
}

// P14.1: which units, and which own address of theirs, an address is.

func TestPlaces(t *testing.T) {
	for _, sizes := range shapes() {
		for _, from := range [][2]int{{0, 1}, {11, 11}, {2, 5}} {
			p := sized(1, from[0], from[1], sizes...)
			us, _ := fresh(t, 12, 2)
			r := shelves(12)
			for _, a := range []int{0, 1, 2, 3, 4, 5, 6, 7, 11, 4093, 4094, 4095} {
				text := strconv.Itoa(a)
				for k := range 3 {
					stepping(p, a, k, text).puts(t, us, r)
				}
				reading(p, a).puts(t, us, r)
				if b, err := chain.Read(us, p, a); err != nil || string(b) != text {
					t.Fatalf("%s answers %q, %v", by("Read", p, a), b, err)
				}
			}
			for _, a := range []int{8, 9, 10, 4090, 4091, 4092} {
				filling(p, a).puts(t, us, r)
				writing(p, a-3, strconv.Itoa(a)).puts(t, us, r)
				reading(p, a-3).puts(t, us, r)
			}
			tailing(p).puts(t, us, r)
		}
	}
}

func TestKnownPlaces(t *testing.T) {
	p := plan.Plan{Epoch: 4, Chains: [][]int{{5, 0}, {3}, {1, 2, 4}}}
	for _, k := range []struct {
		a, own int
		units  []int
	}{
		{0, 0, []int{0, 5}}, {1, 0, []int{3}}, {2, 0, []int{1, 2, 4}},
		{3, 1, []int{0, 5}}, {7, 2, []int{3}}, {11, 3, []int{1, 2, 4}},
		{4093, 1364, []int{3}}, {4094, 1364, []int{1, 2, 4}}, {4095, 1365, []int{0, 5}},
	} {
		us, _ := fresh(t, 6, 1)
		must(t, chain.Write(us, p, k.a, []byte("x")))
		for i, u := range us {
			if has := slices.Contains(k.units, i); has != u.Has(k.own) || has != (u.Tail() == k.own+1) || !has && u.Tail() != 0 {
				t.Errorf("address %d: unit %d has it at %d: %v, tail %d", k.a, i, k.own, u.Has(k.own), u.Tail())
			}
		}
	}
}

// P14.1: wrong plans, addresses, copies and ends, and which error is ahead of which one.

// atAddress is the calls at an address of a plan.
func atAddress(p plan.Plan, a int) []call {
	all := []call{reading(p, a), filling(p, a)}
	for _, b := range []string{"x", "", strings.Repeat("x", 2049)} {
		all = append(all, writing(p, a, b))
		for _, k := range append(odd(), 0, 1, 2, 3) {
			all = append(all, stepping(p, a, k, b))
		}
	}
	return all
}

// refused holds an error of calls against one that is known, and that nothing was done.
func refused(t *testing.T, calls []call, us chain.Units, r rack, err error) {
	t.Helper()
	before := r.clone()
	for _, c := range calls {
		if got := c.puts(t, us, r); got != (answer{err: err}) {
			t.Fatalf("%s: %s, not %v", c.name, got.text(), err)
		}
		if wrong := held(us, before); wrong != "" {
			t.Fatalf("behind %s: %s", c.name, wrong)
		}
	}
}

// someUnits is a choice of units: new ones, ones that refuse the epoch, none.
func someUnits(t *testing.T, epoch int) ([]chain.Units, []rack) {
	t.Helper()
	up, _ := fresh(t, 3, 1)
	sealed, _ := fresh(t, 3, 1)
	r := shelves(3)
	for i, u := range sealed {
		_, err := u.Seal(epoch + 1)
		must(t, err)
		r[i].epoch = epoch + 1
	}
	return []chain.Units{up, sealed, {nil, nil, nil}, nil}, []rack{shelves(3), r, {nil, nil, nil}, nil}
}

func TestWrongPlans(t *testing.T) {
	us, rs := someUnits(t, 0)
	for _, p := range wrongs() {
		var calls []call
		for _, a := range append(odd(), 0, 1, 4095, 4096) {
			calls = append(calls, atAddress(p, a)...)
			calls = append(calls, trimming(p, a))
		}
		calls = append(calls, tailing(p))
		for i := range us {
			refused(t, calls, us[i], rs[i], api.ErrForm)
		}
	}
}

func TestWrongAddresses(t *testing.T) {
	us, rs := someUnits(t, 2)
	for _, p := range []plan.Plan{sized(2, 0, 1, 3), sized(2, 0, 1, 1, 2), sized(2, 2, 11, 1, 1, 1)} {
		var calls []call
		for _, a := range append(odd(), 4096, 4097) {
			calls = append(calls, atAddress(p, a)...)
		}
		for _, to := range append(odd(), 4097, 4098) {
			calls = append(calls, trimming(p, to))
		}
		for i := range us {
			refused(t, calls, us[i], rs[i], api.ErrRange)
		}
	}
}

func TestWrongCopies(t *testing.T) {
	us, rs := someUnits(t, 2)
	for count := 1; count <= 3; count++ {
		for _, p := range []plan.Plan{sized(2, 0, 1, count), sized(2, 11, 11, 3, count)} {
			a := len(p.Chains) - 1
			var calls []call
			for _, k := range append(odd(), count, count+1, 4, 12) {
				for _, b := range []string{"x", "", strings.Repeat("x", 2049)} {
					calls = append(calls, stepping(p, a, k, b))
				}
			}
			for i := range us {
				refused(t, calls, us[i], rs[i], api.ErrRange)
			}
		}
	}
}

// P14.1: a unit is down: nil, or beyond the end.

func TestDown(t *testing.T) {
	p := plan.Plan{Chains: [][]int{{3, 1}, {0, 2}}}
	all, _ := fresh(t, 4, 1)
	for _, k := range []struct {
		us    chain.Units
		up    []int
		fails bool // Tail
	}{
		{all, []int{0, 1, 2, 3}, false},
		{all[:3], []int{0, 1, 2}, true},
		{all[:2], []int{0, 1}, true},
		{all[:0], nil, true},
		{nil, nil, true},
		{chain.Units{nil, all[1], all[2], all[3]}, []int{1, 2, 3}, true},
		{chain.Units{all[0], nil, all[2], all[3]}, []int{0, 2, 3}, false},
		{chain.Units{all[0], all[1], nil, all[3]}, []int{0, 1, 3}, false},
		{chain.Units{all[0], all[1], all[2], nil}, []int{0, 1, 2}, true},
		{chain.Units{nil, nil, nil, nil, nil, all[0]}, []int{5}, true},
	} {
		for a, copies := range p.Chains {
			for i, number := range copies {
				var want error
				if !slices.Contains(k.up, number) {
					want = api.ErrDown
				}
				if err := chain.Step(k.us, p, a, i, []byte("x")); err != want && !(err == api.ErrWritten && i == 0 && want == nil) {
					t.Errorf("units %v: Step of copy %d at %d: %v, not %v", k.up, i, a, err, want)
				}
			}
		}
		n, err := chain.Tail(k.us, p)
		if k.fails && (n != 0 || err != api.ErrDown) || !k.fails && (n != 2 || err != nil) {
			t.Errorf("units %v: Tail answers %d, %v", k.up, n, err)
		}
	}
}

// P14.1: what is the same.

func TestSame(t *testing.T) {
	text := strings.Repeat("tide", 512)
	for i := range len(text) {
		if i > 3 && i < 2044 && i%64 != 0 {
			continue
		}
		for _, sign := range []string{"!", "\x00", strings.ToUpper(text[i : i+1]), "\xff"} {
			differs(t, text, text[:i]+sign+text[i+1:])
		}
		differs(t, text, text[:i]+text[i+1:])
	}
	differs(t, text, text[:1])
	differs(t, text[:1], text)
	differs(t, text[:2047], text)
}

// differs holds that a page isn't the same as another one, which is the same as itself.
func differs(t *testing.T, text, other string) {
	t.Helper()
	us, _ := fresh(t, 2, 2)
	p := sized(0, 0, 1, 2)
	must(t, chain.Step(us, p, 0, 1, []byte(other)))
	must(t, chain.Step(us, p, 0, 1, []byte(other)))
	for _, err := range []error{
		chain.Step(us, p, 0, 1, []byte(text)),
		chain.Others(us, 0, []int{0, 1}, 0, []byte(text)),
		chain.Write(us, p, 0, []byte(text)),
	} {
		if err != api.ErrState {
			t.Errorf("%s, where %s is: %v", brief(text), brief(other), err)
		}
	}
	if b, err := chain.Read(us, p, 0); err != nil || string(b) != other {
		t.Errorf("what is read isn't %s, but %s, %v", brief(other), brief(string(b)), err)
	}
}

// P14.1: Others, of units that no plan has.

func TestOthers(t *testing.T) {
	for _, copies := range [][]int{
		nil, {}, {0}, {9}, {-1}, {0, 1}, {1, 0}, {0, 0}, {1, 1, 1}, {0, 1, 2, 3}, {3, 2, 1, 0}, {0, 1, 1}, {-1, 0}, {99, 1},
		{0, -1}, {0, 4}, {0, 99}, {0, 1, -1, 2}, {0, 1, 4, 2}, {2, 0, 1, 2, 3, 0, 1, 2, 3, 0, 1, 2, 3, 0}, {0, odd()[0]}, {0, odd()[12]},
	} {
		for _, epoch := range append(odd(), 0, 1, 2, 3, 1<<30) {
			for _, at := range append(odd(), 0, 7, 4095, 4096) {
				us, _ := fresh(t, 4, 1)
				r := shelves(4)
				_, err := us[1].Seal(2)
				must(t, err)
				r[1].epoch = 2
				us[3], r[3] = nil, nil
				others(epoch, copies, at, "x").puts(t, us, r)
				others(epoch, copies, at, "x").puts(t, us, r)
				others(epoch, copies, at, "y").puts(t, us, r)
				others(epoch, copies, at, "").puts(t, us, r)
			}
		}
	}
}

func TestOthersOfNone(t *testing.T) {
	us, _ := fresh(t, 1, 1)
	for _, copies := range [][]int{nil, {}, {0}, {5}, {-1}} {
		for _, n := range odd() {
			if err := chain.Others(us, n, copies, n, nil); err != nil {
				t.Errorf("of %v, by %d at %d: %v", copies, n, n, err)
			}
		}
	}
	if us[0].Tail() != 0 {
		t.Error("a page was written")
	}
}

// P14.1: Trim.

func TestTrimOfAllEnds(t *testing.T) {
	for _, sizes := range [][]int{{1}, {2}, {1, 1}, {2, 1}, {1, 1, 1}, {1, 3, 2}} {
		p := sized(0, 0, 1, sizes...)
		us, _ := fresh(t, 6, 8)
		for to := range 4097 {
			must(t, chain.Trim(us, p, to))
			below := make([]int, len(sizes))
			for a := range to {
				below[a%len(sizes)]++
			}
			for c, copies := range p.Chains {
				for _, number := range copies {
					if got := us[number].Trimmed(); got != below[c] {
						t.Fatalf("%v, to %d: unit %d is trimmed to %d, not %d", sizes, to, number, got, below[c])
					}
				}
			}
			if to%500 == 0 || to == 4096 {
				if n, err := chain.Tail(us, p); err != nil || n != to {
					t.Fatalf("%v: Tail is %d, %v, not %d", sizes, n, err, to)
				}
			}
		}
		must(t, chain.Trim(us, p, 0))
		must(t, chain.Trim(us, p, 4000))
	}
}

func TestTrimOfPages(t *testing.T) {
	for _, sizes := range shapes() {
		for to := range 12 {
			p := sized(3, 5, 7, sizes...)
			us, _ := fresh(t, 12, 2)
			r := shelves(12)
			for a := range 10 {
				writing(p, a, strconv.Itoa(a)).puts(t, us, r)
			}
			trimming(p, to).puts(t, us, r, 0, 1, 2, 3, 4, 5, 6, 7, 8, 9, 10, 11, 12)
			for a := range 11 {
				b, err := chain.Read(us, p, a)
				if a < to && err != api.ErrTrimmed || a >= to && a < 10 && string(b) != strconv.Itoa(a) || a >= to && a > 9 && err != api.ErrUnwritten {
					t.Fatalf("%v, trimmed to %d: Read of %d answers %q, %v", sizes, to, a, b, err)
				}
			}
			trimming(p, 0).puts(t, us, r)
			tailing(p).puts(t, us, r)
		}
	}
}

// Trim goes from unit to unit, and ends at the first error: what is ahead of it is trimmed.
func TestTrimStopsAtAnError(t *testing.T) {
	p := plan.Plan{Epoch: 2, Chains: [][]int{{4, 1}, {0}, {2, 3, 5}}}
	order := []int{4, 1, 0, 2, 3, 5}
	for at, bad := range order {
		for _, err := range []error{api.ErrDown, api.ErrSealed, api.ErrFull} {
			us, ds := fresh(t, 6, 1)
			switch err {
			case api.ErrDown:
				if at%2 == 0 {
					us[bad] = nil
				} else {
					ds[bad].Stop(0)
				}
			case api.ErrSealed:
				_, err := us[bad].Seal(3)
				must(t, err)
			case api.ErrFull:
				choke(t, us[bad])
			}
			if got := chain.Trim(us, p, 9); got != err {
				t.Errorf("unit %d has %v: %v", bad, err, got)
			}
			for i, number := range order {
				want := 3
				if i >= at {
					want = 0
				}
				if us[number] != nil && us[number].Trimmed() != want {
					t.Errorf("unit %d has %v: unit %d is trimmed to %d, not %d", bad, err, number, us[number].Trimmed(), want)
				}
			}
		}
	}
}

func TestTrimGivesRoom(t *testing.T) {
	us, _ := fresh(t, 4, 2)
	p := sized(0, 0, 1, 2, 2)
	for a := range 200 {
		if a%5 == 4 {
			must(t, chain.Trim(us, p, a-1))
		}
		must(t, chain.Write(us, p, a, []byte(strings.Repeat("x", 1000))))
	}
}

// P14.1: Tail.

func TestTail(t *testing.T) {
	for _, k := range []struct {
		chains [][]int
		pages  map[int][]int // own addresses by unit
		trims  map[int]int
		tail   int
	}{
		{[][]int{{0}}, nil, nil, 0},
		{[][]int{{0}, {1}, {2}}, nil, nil, 0},
		{[][]int{{0}}, map[int][]int{0: {0}}, nil, 1},
		{[][]int{{0}}, map[int][]int{0: {7, 2}}, nil, 8},
		{[][]int{{0}}, map[int][]int{0: {4095}}, nil, 4096},
		{[][]int{{0, 1}}, map[int][]int{1: {5}}, nil, 0},
		{[][]int{{0, 1, 2}}, map[int][]int{0: {1}, 1: {5}, 2: {9}}, nil, 2},
		{[][]int{{2, 1, 0}}, map[int][]int{0: {1}, 1: {5}, 2: {9}}, nil, 10},
		{[][]int{{0}, {1}}, map[int][]int{0: {0}}, nil, 1},
		{[][]int{{0}, {1}}, map[int][]int{1: {0}}, nil, 2},
		{[][]int{{0}, {1}}, map[int][]int{0: {1}, 1: {0}}, nil, 3},
		{[][]int{{0}, {1}}, map[int][]int{0: {1}, 1: {1}}, nil, 4},
		{[][]int{{1}, {0}}, map[int][]int{0: {4}, 1: {2}}, nil, 10},
		{[][]int{{0}, {1}, {2}}, map[int][]int{0: {2}, 1: {3}, 2: {2}}, nil, 11},
		{[][]int{{0}, {1}, {2}}, map[int][]int{0: {1365}}, nil, 4096},
		{[][]int{{0}}, nil, map[int]int{0: 6}, 6},
		{[][]int{{0}, {1}}, map[int][]int{0: {1}}, map[int]int{1: 4}, 8},
		{[][]int{{0}, {1}}, map[int][]int{0: {9}}, map[int]int{0: 4, 1: 4}, 19},
		{[][]int{{0, 1}, {2, 3}}, map[int][]int{1: {9}, 3: {9}}, map[int]int{1: 2}, 0},
	} {
		us, _ := fresh(t, 4, 1)
		for number, to := range k.trims {
			must(t, us[number].Trim(0, to))
		}
		for number, own := range k.pages {
			for _, at := range own {
				must(t, us[number].Write(0, at, []byte("x")))
			}
		}
		// Tails are asked by no epoch: an elder plan is told them, too.
		_, err := us[0].Seal(7)
		must(t, err)
		for _, epoch := range []int{0, 6, 7, 8, 1 << 30} {
			if n, err := chain.Tail(us, plan.Plan{Epoch: epoch, Chains: k.chains}); err != nil || n != k.tail {
				t.Errorf("%v of %v, %v by epoch %d: %d, %v, not %d", k.chains, k.pages, k.trims, epoch, n, err, k.tail)
			}
		}
	}
}

func TestTailWantsFirstCopies(t *testing.T) {
	p := plan.Plan{Chains: [][]int{{0, 1}, {2, 3, 4}, {5}}}
	for down := range 6 {
		us, _ := fresh(t, 6, 1)
		must(t, chain.Write(us, p, 7, []byte("x")))
		us[down] = nil
		n, err := chain.Tail(us, p)
		if first := down == 0 || down == 2 || down == 5; first && (n != 0 || err != api.ErrDown) || !first && (n != 8 || err != nil) {
			t.Errorf("unit %d is down: %d, %v", down, n, err)
		}
	}
}

// P14.1: a device that stops on the way: what was done ahead of it is done.

func TestStopsOnTheWay(t *testing.T) {
	p := sized(0, 0, 1, 3)
	for stopped := range 3 {
		for after := range 80 {
			us, ds := fresh(t, 3, 1)
			ds[stopped].Stop(after)
			err := chain.Write(us, p, 0, []byte("page"))
			if err != nil && err != api.ErrDown {
				t.Fatal(err)
			}
			for k, u := range us {
				if want := err == nil || k < stopped; u.Has(0) != want {
					t.Fatalf("unit %d stops after %d: %v, unit %d has it: %v", stopped, after, err, k, !want)
				}
			}
			if after == 0 && err == nil || after == 79 && err != nil {
				t.Fatalf("unit %d stops after %d: %v", stopped, after, err)
			}
		}
	}
}

// The rules for all layers: nothing that is handed in changes, or is kept; what is answered is the caller's own.

func TestHandedInStays(t *testing.T) {
	p := plan.Plan{Epoch: 1, Chains: [][]int{{2, 0, 1}, {3}}}
	q, copies := twin(p), []int{3, 1, 2}
	us, _ := fresh(t, 4, 2)
	before := slices.Clone(us)
	b := []byte("page")
	must(t, chain.Step(us, p, 0, 0, b))
	must(t, chain.Write(us, p, 2, b))
	must(t, chain.Others(us, 1, copies, 9, b))
	if string(b) != "page" || !slices.Equal(copies, []int{3, 1, 2}) {
		t.Fatalf("changed: %q, %v", b, copies)
	}
	copy(b, "!!!!")
	for _, a := range []int{0, 2} {
		got, err := chain.Read(us, p, a)
		if err != nil || string(got) != "page" {
			t.Errorf("Read of %d: %q, %v", a, got, err)
		}
	}
	if got, err := us[1].Read(1, 9); err != nil || string(got) != "page" {
		t.Errorf("what Others wrote: %q, %v", got, err)
	}
	_, err := chain.Fill(us, p, 4)
	must(t, err)
	_, err = chain.Tail(us, p)
	must(t, err)
	must(t, chain.Trim(us, p, 1))
	if !alike(p, q) || !slices.Equal(us, before) {
		t.Errorf("changed: %v, %v", p, us)
	}
}

func TestAnswersAreTheCallersOwn(t *testing.T) {
	us, _ := fresh(t, 3, 1)
	p := sized(0, 0, 1, 3)
	must(t, chain.Step(us, p, 0, 0, []byte("page")))
	must(t, chain.Step(us, p, 1, 0, []byte("page")))
	for range 3 {
		for a, want := range []string{"page", "page", junk} {
			for _, ask := range []func(chain.Units, plan.Plan, int) ([]byte, error){chain.Fill, chain.Read} {
				if a == 0 {
					ask = chain.Read
				}
				b, err := ask(us, p, a)
				if err != nil || string(b) != want {
					t.Fatalf("at %d: %q, %v", a, b, err)
				}
				for i := range b {
					b[i] = '!'
				}
			}
		}
	}
	for i, u := range us {
		for at, want := range []string{"page", "page", junk} {
			if b, err := u.Read(0, at); err != nil || string(b) != want {
				t.Errorf("unit %d has at %d: %q, %v", i, at, b, err)
			}
		}
	}
	if !page.IsJunk(page.Junk()) {
		t.Error("junk was changed")
	}
}

// P14.1: long thrown rows of calls, by plans that change, of units that are sealed, go down and come up.

// throws is a call that chance makes: mostly at addresses near each other, so that they meet.
func throws(r *rand.Rand, p plan.Plan) call {
	a := r.Intn(12)
	switch r.Intn(40) {
	case 0:
		a = 4084 + r.Intn(14)
	case 1:
		a = -1 - r.Intn(3)
	}
	b := []string{"x", "y", junk, "", "xyz"}[min(r.Intn(12), 4)]
	b = strings.Repeat(b, 1+r.Intn(2))
	switch r.Intn(16) {
	case 0, 1, 2:
		return writing(p, a, b)
	case 3, 4, 5:
		return stepping(p, a, r.Intn(5)-1, b)
	case 6, 7, 8, 9:
		return reading(p, a)
	case 10, 11:
		return filling(p, a)
	case 12:
		return tailing(p)
	case 13:
		return trimming(p, min(a, r.Intn(12)))
	}
	return others(p.Epoch, p.Chains[r.Intn(len(p.Chains))], r.Intn(5), b)
}

// happens makes something happen to a unit, and to its shelf: it goes down, comes up again, or is sealed.
func happens(t *testing.T, r *rand.Rand, us, all chain.Units, shelf, shelves rack) {
	t.Helper()
	i := r.Intn(len(us))
	switch {
	case us[i] == nil:
		us[i], shelf[i] = all[i], shelves[i]
	case r.Intn(3) > 0:
		us[i], shelf[i] = nil, nil
	default:
		epoch := us[i].Epoch() + r.Intn(2)
		_, err := us[i].Seal(epoch)
		must(t, err)
		shelf[i].epoch = epoch
	}
}

func TestThrownRows(t *testing.T) {
	for n := range 240 {
		t.Run(strconv.Itoa(n), func(t *testing.T) {
			t.Parallel()
			r := rand.New(rand.NewSource(int64(n)))
			all, _ := fresh(t, 12, 8)
			shelves := shelves(12)
			us, rack := slices.Clone(all), slices.Clone(shelves)
			sizes := shapes()[n%len(shapes())]
			p := sized(1, r.Intn(12), []int{1, 5, 7, 11}[r.Intn(4)], sizes...)
			fine := 0
			for range 300 {
				if r.Intn(8) == 0 {
					happens(t, r, us, all, rack, shelves)
				}
				if r.Intn(30) == 0 {
					p.Epoch += r.Intn(3) - r.Intn(2)
					p.Epoch = max(p.Epoch, 0)
				}
				if throws(r, p).puts(t, us, rack, 0, 1, 2, 3, 4, 5, 6, 7, 8, 9, 10, 11, 12).err == nil {
					fine++
				}
			}
			if fine < 10 {
				t.Errorf("just %d calls had no error", fine)
			}
		})
	}
}
