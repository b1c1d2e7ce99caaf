package recon_test

import (
	"slices"
	"strconv"
	"testing"

	"tidewater/api"
	"tidewater/chain"
	"tidewater/page"
	"tidewater/plan"
	"tidewater/recon"
	"tidewater/token"
	"tidewater/writer"
)

// P16.1: Scan.

// backsAre holds what a sequencer holds of all streams.
func backsAre(t *testing.T, s *token.Sequencer, want ...api.Back) {
	t.Helper()
	like := func(a, b api.Back) bool { return a.Stream == b.Stream && slices.Equal(a.Addresses, b.Addresses) }
	if got := s.Backs(); !slices.EqualFunc(got, want, like) {
		t.Errorf("it holds %v, not %v", got, want)
	}
}

// nextIs holds a sequencer's next address.
func nextIs(t *testing.T, s *token.Sequencer, epoch, want int) {
	t.Helper()
	if n, err := s.Next(epoch); n != want || err != nil || s.Epoch() != epoch {
		t.Errorf("of epoch %d the next address is %d, %v, not %d of %d", s.Epoch(), n, err, want, epoch)
	}
}

// logged is a scene on which addresses of a plan have these pages; where there is none nothing is written.
func logged(t *testing.T, p plan.Plan, pages [][]byte) *scene {
	t.Helper()
	c := newScene(t, p, 12, 4)
	for a, b := range pages {
		if b != nil {
			must(t, chain.Write(c.all, p, a, b))
		}
	}
	return c
}

func TestScan(t *testing.T) {
	pages := [][]byte{
		pageOf(t, 1), pageOf(t, 0, 1), page.Junk(), pageOf(t, 1), nil, pageOf(t, 0, 2, 12), []byte("x"), pageOf(t, 12),
		pageOf(t, 1), page.Junk(), pageOf(t, 0, 1, 2), nil, nil, pageOf(t, 1), page.Junk(),
	}
	for _, p := range []plan.Plan{by(3, []int{0}), by(0, []int{2, 1, 0}), by(1<<30, []int{5, 0}, []int{7, 11}), by(6, []int{8}, []int{1, 2}, []int{3, 4, 5})} {
		c := logged(t, p, pages)
		s, err := recon.Scan(c.all, p)
		must(t, err)
		nextIs(t, s, p.Epoch, 15)
		backsAre(t, s, api.Back{Stream: 0, Addresses: []int{10, 5, 1}}, api.Back{Stream: 1, Addresses: []int{13, 10, 8, 3}}, api.Back{Stream: 2, Addresses: []int{10, 5}}, api.Back{Stream: 12, Addresses: []int{7, 5}})
		// What is trimmed doesn't count.
		must(t, chain.Trim(c.all, p, 6))
		s, err = recon.Scan(c.all, p)
		must(t, err)
		nextIs(t, s, p.Epoch, 15)
		backsAre(t, s, api.Back{Stream: 0, Addresses: []int{10}}, api.Back{Stream: 1, Addresses: []int{13, 10, 8}}, api.Back{Stream: 2, Addresses: []int{10}}, api.Back{Stream: 12, Addresses: []int{7}})
		must(t, chain.Trim(c.all, p, 15))
		s, err = recon.Scan(c.all, p)
		must(t, err)
		backsAre(t, s)
	}
}

func TestScanOfNewest(t *testing.T) {
	p := by(1, []int{0, 1}, []int{2})
	for count := range 8 {
		var pages [][]byte
		var falling []int
		for i := range count {
			pages = append(pages, pageOf(t, 7), page.Junk())
			falling = append([]int{2 * i}, falling...)
		}
		s, err := recon.Scan(logged(t, p, pages).all, p)
		must(t, err)
		nextIs(t, s, 1, 2*count)
		if list, err := s.Newest(1, 7); err != nil || !slices.Equal(list, falling[:min(count, 4)]) {
			t.Errorf("of %d pages it has %v, %v", count, list, err)
		}
	}
}

func TestScanOfAllStreams(t *testing.T) {
	p := by(1, []int{0})
	for times := 1; times <= 6; times++ {
		var pages [][]byte
		for range times {
			for shard := 1; shard <= 11; shard += 2 {
				pages = append(pages, pageOf(t, 0, shard, shard+1))
			}
		}
		s, err := recon.Scan(logged(t, p, pages).all, p)
		must(t, err)
		end := 6*times - 1
		last := func(from, by int) []int { return []int{from, from - by, from - 2*by, from - 3*by} }
		want := []api.Back{{Stream: 0, Addresses: last(end, 1)}}
		for stream := 1; stream <= 12; stream++ {
			want = append(want, api.Back{Stream: stream, Addresses: last(end-5+(stream-1)/2, 6)[:min(times, 4)]})
		}
		backsAre(t, s, want...)
	}
}

// What pages tell of elder addresses isn't asked.
func TestScanTrustsNoPage(t *testing.T) {
	p := by(0, []int{0})
	b, err := page.Bytes(entryOf(3), []api.Back{{Stream: 3, Addresses: []int{9, 2, 1}}})
	must(t, err)
	s, err := recon.Scan(logged(t, p, [][]byte{pageOf(t, 3), page.Junk(), pageOf(t, 0, 4), b}).all, p)
	must(t, err)
	backsAre(t, s, api.Back{Stream: 0, Addresses: []int{2}}, api.Back{Stream: 3, Addresses: []int{3, 0}}, api.Back{Stream: 4, Addresses: []int{2}})
}

func TestScanOfEnds(t *testing.T) {
	for _, p := range []plan.Plan{by(2, []int{0}), by(2, []int{0, 1}, []int{2}), by(2, []int{3}, []int{2}, []int{1, 0})} {
		s, err := recon.Scan(newScene(t, p, 4, 1).all, p)
		must(t, err)
		nextIs(t, s, 2, 0)
		backsAre(t, s)
		c := newScene(t, p, 4, 1)
		must(t, chain.Write(c.all, p, 4095, pageOf(t, 5)))
		must(t, chain.Write(c.all, p, 0, pageOf(t, 6)))
		s, err = recon.Scan(c.all, p)
		must(t, err)
		nextIs(t, s, 2, 4096)
		backsAre(t, s, api.Back{Stream: 5, Addresses: []int{4095}}, api.Back{Stream: 6, Addresses: []int{0}})
	}
	p := by(2, []int{0})
	c := newScene(t, p, 4, 1)
	must(t, chain.Trim(c.all, p, 4096))
	s, err := recon.Scan(c.all, p)
	must(t, err)
	nextIs(t, s, 2, 4096)
	backsAre(t, s)
}

// A page that just the first copies have is written to the others, as layer 14's Read does.
func TestScanFinishes(t *testing.T) {
	p := by(0, []int{0, 1, 2}, []int{3})
	for copies := range 4 {
		c := logged(t, p, [][]byte{nil, page.Junk()})
		for k := range copies {
			must(t, chain.Step(c.all, p, 0, k, pageOf(t, 9)))
		}
		s, err := recon.Scan(c.all, p)
		must(t, err)
		nextIs(t, s, 0, 2)
		want := [][]api.Back{nil, {{Stream: 9, Addresses: []int{0}}}}[min(copies, 1)]
		backsAre(t, s, want...)
		for i := range 3 {
			if c.all[i].Has(0) != (copies > 0) {
				t.Errorf("%d copies: unit %d has it: %v", copies, i, c.all[i].Has(0))
			}
		}
	}
}

// P16.1: what keeps a Scan from being done.

func TestScanFails(t *testing.T) {
	p := by(4, []int{0, 1, 2}, []int{3, 4})
	partial := func(t *testing.T, c *scene) { must(t, chain.Step(c.all, p, 6, 0, pageOf(t, 1))) }
	for _, k := range []struct {
		name string
		do   func(t *testing.T, c *scene)
		err  error
	}{
		{"all is well", func(*testing.T, *scene) {}, nil},
		{"a first copy is down", func(_ *testing.T, c *scene) { c.up[0] = false }, api.ErrDown},
		{"a middle copy is down", func(_ *testing.T, c *scene) { c.up[1] = false }, nil},
		{"a last copy is down", func(_ *testing.T, c *scene) { c.up[2] = false }, api.ErrDown},
		{"another first copy is down", func(_ *testing.T, c *scene) { c.up[3] = false }, api.ErrDown},
		{"another last copy is down", func(_ *testing.T, c *scene) { c.up[4] = false }, api.ErrDown},
		{"others are down", func(_ *testing.T, c *scene) { c.up[5], c.up[11] = false, false }, nil},
		{"a first copy is sealed", func(_ *testing.T, c *scene) { c.all[0].Seal(5) }, nil},
		{"a middle copy is sealed", func(_ *testing.T, c *scene) { c.all[1].Seal(5) }, nil},
		{"a last copy is sealed", func(_ *testing.T, c *scene) { c.all[2].Seal(5) }, api.ErrSealed},
		{"another last copy is sealed", func(_ *testing.T, c *scene) { c.all[4].Seal(5) }, api.ErrSealed},
		{"all are sealed by its epoch", func(_ *testing.T, c *scene) {
			for _, u := range c.all {
				u.Seal(4)
			}
		}, nil},
		{"a middle copy is down that a page wants", func(t *testing.T, c *scene) {
			partial(t, c)
			c.up[1] = false
		}, api.ErrDown},
		{"a middle copy is sealed that a page wants", func(t *testing.T, c *scene) {
			partial(t, c)
			c.all[1].Seal(5)
		}, api.ErrSealed},
		{"a middle copy has another page", func(t *testing.T, c *scene) {
			partial(t, c)
			must(t, c.all[1].Write(4, 3, page.Junk()))
		}, api.ErrState},
		{"a middle copy has no room", func(t *testing.T, c *scene) {
			partial(t, c)
			choke(t, c.all[1])
		}, api.ErrFull},
		{"a middle copy is trimmed", func(t *testing.T, c *scene) {
			partial(t, c)
			must(t, c.all[1].Trim(4, 4))
		}, nil},
		{"a last copy's device is down", func(t *testing.T, c *scene) {
			partial(t, c)
			c.ds[2].Stop(0)
		}, api.ErrDown},
		{"a page beyond the log", func(t *testing.T, c *scene) { must(t, c.all[0].Write(4, 2048, pageOf(t, 1))) }, api.ErrRange},
		{"a trim beyond the log", func(t *testing.T, c *scene) { must(t, c.all[3].Trim(4, 4096)) }, api.ErrRange},
		{"a last copy's page beyond the log", func(t *testing.T, c *scene) { must(t, c.all[4].Write(4, 2048, pageOf(t, 1))) }, nil},
	} {
		c := logged(t, p, [][]byte{pageOf(t, 1), pageOf(t, 2), pageOf(t, 3), nil, page.Junk(), pageOf(t, 1)})
		k.do(t, c)
		twin := c.twin(t)
		if s, err := recon.Scan(c.us(), p); err != k.err || (s == nil) != (err != nil) {
			t.Errorf("%s: %v", k.name, err)
			continue
		}
		if k.err == nil {
			got, _ := recon.Scan(c.us(), p)
			want, err := scans(twin.us(), p)
			must(t, err)
			if wrong := alike(got, want); wrong != "" {
				t.Errorf("%s: %s", k.name, wrong)
			}
		}
	}
}

func TestScanOfWrongPlans(t *testing.T) {
	wrong := []plan.Plan{
		{}, {Chains: [][]int{}}, {Chains: [][]int{{}}}, {Chains: [][]int{{0, 1}, nil}}, by(0, []int{0, 1, 2, 3}), by(0, []int{0}, []int{1}, []int{2}, []int{3}),
		by(0, []int{0, 0}), by(0, []int{0, 1}, []int{2, 1}), by(0, []int{-1}), by(0, []int{0, 12}), by(-1, []int{0}), by(1<<30+1, []int{0}),
	}
	for _, n := range odd() {
		wrong = append(wrong, by(n, []int{0}), by(0, []int{0, n}))
	}
	for _, p := range wrong {
		for _, us := range []chain.Units{nil, newScene(t, by(0, []int{0}), 12, 1).all} {
			if s, err := recon.Scan(us, p); s != nil || err != api.ErrForm {
				t.Errorf("of %v it answers %v, %v", p, s, err)
			}
		}
	}
}

// A plan of another epoch than the units have: nothing is asked of an empty log.
func TestScanByOtherEpochs(t *testing.T) {
	for epoch := 3; epoch <= 5; epoch++ {
		p := by(epoch, []int{0, 1})
		c := newScene(t, p, 2, 1)
		for _, u := range c.all {
			u.Seal(4)
		}
		s, err := recon.Scan(c.all, p)
		must(t, err)
		nextIs(t, s, epoch, 0)
		c.put(t, 0, pageOf(t, 1), 0, 1)
		if _, err := recon.Scan(c.all, p); (err == api.ErrSealed) != (epoch < 4) {
			t.Errorf("by epoch %d: %v", epoch, err)
		}
	}
}

// P16.2: of a log that appends made, the sequencer tells what the one told that they took their addresses from.
func TestScanAsItWasTold(t *testing.T) {
	for _, p := range []plan.Plan{by(2, []int{0}), by(2, []int{0, 1}, []int{2}), by(2, []int{3, 5}, []int{2}, []int{1, 0, 4})} {
		c := newScene(t, p, 6, 8)
		s, err := token.New(2, 0, nil)
		must(t, err)
		for i := range 60 {
			e := entryOf([][]int{{1 + i*i%12}, {0, 1 + i*7%12}, {0, 1 + i%6, 7 + i%5}}[i*i%7%3]...)
			at, err := writer.Append(c.all, p, s, e)
			if at != i || err != nil {
				t.Fatalf("Append %d answers %d, %v", i, at, err)
			}
			got, err := recon.Scan(c.all, p)
			must(t, err)
			if wrong := alike(got, s); wrong != "" {
				t.Fatalf("behind %s: %s", strconv.Itoa(i), wrong)
			}
		}
	}
}
