package shared_test

import (
	"slices"
	"testing"

	"tidewater/api"
	"tidewater/chain"
	"tidewater/page"
	"tidewater/plan"
	"tidewater/shared"
	"tidewater/token"
	"tidewater/writer"
)

// shapes is some plans, of units 0 to 8.
func shapes(epoch int) []plan.Plan {
	return []plan.Plan{
		by(epoch, []int{0}), by(epoch, []int{1, 0}), by(epoch, []int{2, 0, 1}), by(epoch, []int{0}, []int{1}), by(epoch, []int{3, 1}, []int{2}),
		by(epoch, []int{0}, []int{1}, []int{2}), by(epoch, []int{4, 5}, []int{0, 1, 2}, []int{3}), by(epoch, []int{0, 1, 2}, []int{3, 4, 5}, []int{6, 7, 8}),
	}
}

// wrongPlans is plans that aren't right.
func wrongPlans(epoch int) []plan.Plan {
	return []plan.Plan{
		{Epoch: epoch}, by(epoch, nil), by(epoch, []int{0}, nil), by(epoch, []int{0, 0}), by(epoch, []int{0}, []int{0}), by(epoch, []int{0, 1, 2, 3}),
		by(epoch, []int{0}, []int{1}, []int{2}, []int{3}), by(epoch, []int{-1}), by(epoch, []int{0, 12}),
	}
}

// P17.1: the chapter's example: an address that was taken, and isn't written.

func TestExample(t *testing.T) {
	for _, p := range shapes(2) {
		c := newScene(t, p, 9, 1)
		at, _, err := c.s.Take(2, []int{1})
		must(t, err)
		if got, err := c.log().Page(at); err != nil || !like(got, shared.Page{At: at, Junk: true}) {
			t.Errorf("by %v it is %v, %v", p, got, err)
		}
		// It is settled: whoever took it can't write there any more.
		if err := chain.Write(c.all, p, at, pageOf(t, 1)); err != api.ErrWritten {
			t.Errorf("by %v writing there answers %v", p, err)
		}
	}
}

// P17.1: Append, and Page of what was appended.

func TestAppend(t *testing.T) {
	entries, _ := kinds()
	want := [][]api.Back{
		{{Stream: 3}},
		{{Stream: 0}, {Stream: 12}},
		{{Stream: 0, Addresses: []int{1}}, {Stream: 1}, {Stream: 2}},
		{{Stream: 0, Addresses: []int{2, 1}}, {Stream: 1, Addresses: []int{2}}, {Stream: 12, Addresses: []int{1}}},
		{{Stream: 0, Addresses: []int{3, 2, 1}}},
		{{Stream: 3, Addresses: []int{0}}},
		{{Stream: 0, Addresses: []int{4, 3, 2, 1}}, {Stream: 12, Addresses: []int{3, 1}}},
		{{Stream: 0, Addresses: []int{6, 4, 3, 2}}, {Stream: 1, Addresses: []int{3, 2}}, {Stream: 2, Addresses: []int{2}}},
	}
	for _, p := range shapes(0) {
		c := newScene(t, p, 9, 1)
		l := c.log()
		for i := range want {
			if at, err := l.Append(entries[i%5]); at != i || err != nil {
				t.Fatalf("by %v Append %d answers %d, %v", p, i, at, err)
			}
		}
		for i, backs := range want {
			if got, err := l.Page(i); err != nil || !like(got, shared.Page{At: i, Entry: entries[i%5], Backs: backs}) {
				t.Errorf("by %v at %d there is %v, %v", p, i, got, err)
			}
		}
	}
}

func TestAppendFails(t *testing.T) {
	p := by(1, []int{0, 1})
	wrong := api.Entry{Kind: api.Merge, Shard: 1, Other: 1}
	for _, k := range []struct {
		name string
		do   func(c *scene)
		e    api.Entry
		err  error
		next int // of the sequencer, behind it
	}{
		{"all is well", func(*scene) {}, merge(), nil, 1},
		{"the entry isn't right", func(*scene) {}, wrong, api.ErrForm, 0},
		{"nor is the sequencer there", func(c *scene) { c.s = nil }, wrong, api.ErrForm, 0},
		{"the sequencer is lost", func(c *scene) { c.s = nil }, merge(), api.ErrDown, 0},
		{"the sequencer is an elder one", func(c *scene) { c.s = sequencer(t, 0, 0) }, merge(), api.ErrSealed, 0},
		{"the sequencer is a later one", func(c *scene) { c.s = sequencer(t, 2, 0) }, merge(), api.ErrSealed, 0},
		{"the log is full", func(c *scene) { c.s = sequencer(t, 1, 4096) }, merge(), api.ErrFull, 4096},
		{"it is at the last address", func(c *scene) { c.s = sequencer(t, 1, 4095) }, merge(), nil, 4096},
		{"copy 0 is down", func(c *scene) { c.up[0] = false }, merge(), api.ErrDown, 1},
		{"copy 1 is down", func(c *scene) { c.up[1] = false }, merge(), api.ErrDown, 1},
		{"copy 0 is sealed", func(c *scene) { c.seal(t, 2, 0) }, merge(), api.ErrSealed, 1},
		{"copy 1 is sealed", func(c *scene) { c.seal(t, 2, 1) }, merge(), api.ErrSealed, 1},
		{"copy 1 has something else", func(c *scene) { must(t, chain.Step(c.all, p, 0, 1, page.Junk())) }, merge(), api.ErrState, 1},
		{"it is trimmed", func(c *scene) { must(t, chain.Trim(c.all, p, 1)) }, merge(), api.ErrTrimmed, 1},
		{"eight are filled", func(c *scene) {
			for a := range 8 {
				_, err := c.log().Page(a)
				must(t, err)
			}
		}, merge(), api.ErrState, 8},
		{"the plan isn't right", func(c *scene) { c.p = by(1, []int{0, 0}) }, merge(), api.ErrForm, 1},
	} {
		c := newScene(t, p, 2, 1)
		k.do(c)
		at, err := c.log().Append(k.e)
		if want := max(k.next-1, 0); err != k.err || err != nil && at != 0 || err == nil && at != want {
			t.Errorf("%s: Append answers %d, %v", k.name, at, err)
		}
		if c.s != nil {
			if next, err := c.s.Next(c.s.Epoch()); next != k.next || err != nil {
				t.Errorf("%s: the sequencer's next address is %d, %v", k.name, next, err)
			}
		}
	}
}

// An append goes on behind addresses that readers have filled.
func TestAppendBehindFilled(t *testing.T) {
	for _, p := range shapes(0) {
		for filled := range 8 {
			c := newScene(t, p, 9, 1)
			l := c.log()
			for a := range filled {
				if got, err := l.Page(a); err != nil || !like(got, shared.Page{At: a, Junk: true}) {
					t.Fatalf("by %v at %d, ahead of all, there is %v, %v", p, a, got, err)
				}
			}
			if at, err := l.Append(merge()); at != filled || err != nil {
				t.Errorf("by %v behind %d of them Append answers %d, %v", p, filled, at, err)
			}
			for a := range filled {
				if got, err := l.Page(a); err != nil || !got.Junk {
					t.Errorf("by %v at %d there is %v, %v", p, a, got, err)
				}
			}
		}
	}
}

// P17.1: Page and the sequencer have nothing to do with each other.

func TestPageWithoutSequencer(t *testing.T) {
	p := by(3, []int{0, 1}, []int{2})
	for _, s := range []*token.Sequencer{nil, sequencer(t, 2, 0), sequencer(t, 4, 9), sequencer(t, 3, 4096)} {
		c := newScene(t, p, 3, 1)
		c.lays(t, pageOf(t, 7), nil)
		c.s = s
		l := c.log()
		for _, a := range []int{0, 0, 1, 9, 4095} {
			want := shared.Page{At: a, Junk: true}
			if a == 0 {
				want = shared.Page{Entry: entryOf(7), Backs: []api.Back{{Stream: 7}}}
			}
			if got, err := l.Page(a); err != nil || !like(got, want) {
				t.Errorf("at %d there is %v, %v", a, got, err)
			}
		}
		if c.all[0].Tail() != 1 || c.all[2].Tail() != 2048 || c.all[2].Has(3) {
			t.Errorf("units' tails are %d, %d", c.all[0].Tail(), c.all[2].Tail())
		}
	}
}

func TestPageOfWrongAddresses(t *testing.T) {
	for _, p := range shapes(0) {
		c := newScene(t, p, 9, 1)
		c.lays(t, pageOf(t, 1), pageOf(t, 1))
		before := c.twin(t)
		for _, a := range append(odd(), 4096, 4097) {
			if got, err := c.log().Page(a); err != api.ErrRange || !like(got, shared.Page{}) {
				t.Errorf("by %v at %d there is %v, %v", p, a, got, err)
			}
		}
		if wrong := c.differs(before); wrong != "" {
			t.Error(wrong)
		}
	}
	for _, p := range wrongPlans(0) {
		for _, a := range []int{-1, 0, 4095, 4096} {
			c := newScene(t, p, 4, 1)
			if got, err := c.log().Page(a); err != api.ErrForm || !like(got, shared.Page{}) {
				t.Errorf("by %v at %d there is %v, %v", p, a, got, err)
			}
		}
	}
}

// P17.1: Tail and Newest ask the sequencer by the plan's epoch, and units nothing.

func TestTail(t *testing.T) {
	for _, k := range []struct {
		name string
		s    *token.Sequencer
		tail int
		err  error
	}{
		{"at first", sequencer(t, 5, 0), 0, nil},
		{"behind some", sequencer(t, 5, 7), 7, nil},
		{"of a full log", sequencer(t, 5, 4096), 4096, nil},
		{"lost", nil, 0, api.ErrDown},
		{"an elder one", sequencer(t, 4, 7), 0, api.ErrSealed},
		{"a later one", sequencer(t, 6, 7), 0, api.ErrSealed},
		{"the greatest one", sequencer(t, 1<<30, 7), 0, api.ErrSealed},
	} {
		for _, us := range []chain.Units{nil, {nil}, newScene(t, by(5, []int{0}), 1, 1).all} {
			for _, p := range append(wrongPlans(5), by(5, []int{0})) {
				l := shared.New(us, p, k.s)
				if n, err := l.Tail(); n != k.tail || err != k.err {
					t.Errorf("%s: Tail is %d, %v", k.name, n, err)
				}
			}
		}
	}
}

func TestNewest(t *testing.T) {
	backs := []api.Back{{Stream: 0, Addresses: []int{9, 4}}, {Stream: 1, Addresses: []int{8, 7, 6, 5}}, {Stream: 12, Addresses: []int{0}}}
	s, err := token.New(5, 10, backs)
	must(t, err)
	later, err := token.New(6, 10, backs)
	must(t, err)
	for stream := range 13 {
		var want []int
		for _, b := range backs {
			if b.Stream == stream {
				want = b.Addresses
			}
		}
		if got, err := shared.New(nil, by(5, []int{0}), s).Newest(stream); err != nil || !slices.Equal(got, want) {
			t.Errorf("of stream %d they are %v, %v, not %v", stream, got, err, want)
		}
	}
	for _, stream := range append(odd(), 13, 14, 0, 1, 12) {
		for _, k := range []struct {
			s   *token.Sequencer
			err error
		}{
			{nil, api.ErrDown}, {later, api.ErrSealed}, {s, api.ErrRange},
		} {
			if k.err == api.ErrRange && stream >= 0 && stream < 13 {
				continue
			}
			if got, err := shared.New(nil, by(5, []int{0}), k.s).Newest(stream); got != nil || err != k.err {
				t.Errorf("of stream %d they are %v, %v, not %v", stream, got, err, k.err)
			}
		}
	}
}

// What was taken shows at once, whoever took it.
func TestNewestOfTaken(t *testing.T) {
	c := newScene(t, by(0, []int{0}), 1, 1)
	l := c.log()
	for i := range 7 {
		if i%2 == 0 {
			_, err := l.Append(entryOf(5))
			must(t, err)
		} else {
			_, _, err := c.s.Take(0, []int{0, 5})
			must(t, err)
		}
		five, err := l.Newest(5)
		if want := []int{6, 5, 4, 3, 2, 1, 0}[6-i:][:min(i+1, 4)]; err != nil || !slices.Equal(five, want) {
			t.Errorf("behind %d they are %v, %v, not %v", i, five, err, want)
		}
		nought, err := l.Newest(0)
		if want := []int{5, 3, 1}[3-(i+1)/2:]; err != nil || !slices.Equal(nought, want) {
			t.Errorf("behind %d those of 0 are %v, %v, not %v", i, nought, err, want)
		}
		if n, err := l.Tail(); n != i+1 || err != nil {
			t.Errorf("behind %d the tail is %d, %v", i, n, err)
		}
	}
}

// P17.1: New: units and the sequencer are used as they are, the plan is apart.

func TestUsedAsTheyAre(t *testing.T) {
	c := newScene(t, by(0, []int{0, 1}), 2, 1)
	l, other := c.log(), c.log()
	if at, err := l.Append(merge()); at != 0 || err != nil {
		t.Fatalf("Append answers %d, %v", at, err)
	}
	if !c.all[0].Has(0) || !c.all[1].Has(0) {
		t.Error("the units don't have what was appended")
	}
	if n, err := c.s.Next(0); n != 1 || err != nil {
		t.Errorf("the sequencer's next address is %d, %v", n, err)
	}
	if at, err := other.Append(entryOf(5)); at != 1 || err != nil {
		t.Errorf("Append to another log of the same answers %d, %v", at, err)
	}
	if got, err := l.Page(1); err != nil || !like(got, shared.Page{At: 1, Entry: entryOf(5), Backs: []api.Back{{Stream: 5}}}) {
		t.Errorf("at 1 there is %v, %v", got, err)
	}
	c.seal(t, 1, 0, 1)
	if got, err := l.Page(1); err != api.ErrSealed || !like(got, shared.Page{}) {
		t.Errorf("of sealed units it is %v, %v", got, err)
	}
}

func TestPlanIsApart(t *testing.T) {
	p := by(2, []int{0, 1}, []int{2, 3})
	c := newScene(t, p, 12, 1)
	us := slices.Clone(c.all)
	l := shared.New(us, p, c.s)
	// Whoever holds the plan may change it.
	p.Chains[0][0], p.Chains[0][1], p.Chains[1][0] = 9, 8, 7
	p.Chains[1] = p.Chains[1][:1]
	p.Epoch = 7
	for a := range 4 {
		if at, err := l.Append(merge()); at != a || err != nil {
			t.Fatalf("Append answers %d, %v", at, err)
		}
		_, err := l.Page(a)
		must(t, err)
	}
	must(t, l.Trim(1))
	_, err := l.Begin()
	must(t, err)
	for i, u := range c.all {
		if has := u.Has(1); has != (i < 4) {
			t.Errorf("unit %d has the page: %v", i, has)
		}
	}
	if !slices.Equal(us, c.all) || p.Epoch != 7 || !slices.Equal(p.Chains[0], []int{9, 8}) || !slices.Equal(p.Chains[1], []int{7}) {
		t.Errorf("what was handed in is %v, %v", us, p)
	}
}

// The rules for all layers: what is handed in stays, and what is answered is the caller's own.

func TestNothingShared(t *testing.T) {
	entries, streams := kinds()
	for i, e := range entries {
		c := newScene(t, by(0, []int{0, 1}), 2, 1)
		l := c.log()
		mine := e
		mine.Ops, mine.Data = slices.Clone(e.Ops), slices.Clone(e.Data)
		for range 2 {
			_, err := l.Append(mine)
			must(t, err)
		}
		if !like(shared.Page{Entry: mine}, shared.Page{Entry: e}) {
			t.Errorf("the entry is %v", mine)
		}
		spoilEntry(mine)
		want := shared.Page{At: 1, Entry: e}
		for _, s := range streams[i] {
			want.Backs = append(want.Backs, api.Back{Stream: s, Addresses: []int{0}})
		}
		for range 3 {
			got, err := l.Page(1)
			if err != nil || !like(got, want) {
				t.Fatalf("at 1 there is %v, %v, not %v", got, err, want)
			}
			spoil(got)
			all, err := l.Pages(0, 2)
			if err != nil || len(all) != 2 || !like(all[1], want) {
				t.Fatalf("the pages are %v, %v, the last one not %v", all, err, want)
			}
			spoil(all[0])
			spoil(all[1])
			all[0], all[1] = shared.Page{}, shared.Page{}
			newest, err := l.Newest(streams[i][0])
			if err != nil || !slices.Equal(newest, []int{1, 0}) {
				t.Fatalf("the newest ones are %v, %v", newest, err)
			}
			newest[0], newest[1] = -1, -1
		}
	}
}

// spoil changes all that a page holds by lists.
func spoil(p shared.Page) {
	spoilEntry(p.Entry)
	for i := range p.Backs {
		for j := range p.Backs[i].Addresses {
			p.Backs[i].Addresses[j] = -7
		}
		p.Backs[i] = api.Back{Stream: -7}
	}
}

// spoilEntry changes all that an entry holds by lists.
func spoilEntry(e api.Entry) {
	for i := range e.Ops {
		e.Ops[i] = api.Op{Kind: -7}
	}
	for i := range e.Data {
		e.Data[i] = 7
	}
}

// P17.1: a log of others' writers: what stands at an address is what they have written there.

func TestPageOfWriters(t *testing.T) {
	for _, p := range shapes(0) {
		for steps := range 5 {
			c := newScene(t, p, 9, 1)
			w, err := writer.New(merge())
			must(t, err)
			for range steps {
				w.Step(c.all, p, c.s)
			}
			// Behind its first copy the page is there; ahead of that junk is.
			want := shared.Page{Junk: true}
			if w.Copies() > 0 {
				want = shared.Page{Entry: merge(), Backs: []api.Back{{Stream: 0}, {Stream: 1}, {Stream: 2}}}
			}
			for range 2 {
				if got, err := c.log().Page(0); err != nil || !like(got, want) {
					t.Errorf("by %v behind %d steps there is %v, %v", p, steps, got, err)
				}
			}
			for _, number := range p.Chains[0] {
				if !c.all[number].Has(0) {
					t.Errorf("by %v behind %d steps unit %d has nothing", p, steps, number)
				}
			}
			for w.State() < writer.Done {
				w.Step(c.all, p, c.s)
			}
			at := 0
			if want.Junk {
				at = 1
			}
			if w.Err() != nil || w.Address() != at {
				t.Errorf("by %v behind %d steps the writer ends at %d, %v", p, steps, w.Address(), w.Err())
			}
		}
	}
}
