package writer_test

import (
	"strconv"
	"testing"

	"tidewater/api"
	"tidewater/chain"
	"tidewater/page"
	"tidewater/plan"
	"tidewater/token"
	"tidewater/writer"
)

// P15.1: copy 0 is written already: it is asking again, up to eight times.

// fillings is ways in which an address comes to be written by somebody else.
func fillings() map[string]func(us chain.Units, p plan.Plan, a int) error {
	return map[string]func(us chain.Units, p plan.Plan, a int) error{
		"Fill": func(us chain.Units, p plan.Plan, a int) error {
			_, err := chain.Fill(us, p, a)
			return err
		},
		"junk on copy 0": func(us chain.Units, p plan.Plan, a int) error { return chain.Step(us, p, a, 0, page.Junk()) },
		"another page":   func(us chain.Units, p plan.Plan, a int) error { return chain.Write(us, p, a, []byte("page")) },
		"its own page": func(us chain.Units, p plan.Plan, a int) error {
			b, err := page.Bytes(merge(), elder(a))
			if err != nil {
				return err
			}
			return chain.Write(us, p, a, b)
		},
	}
}

// elder is what the sequencer tells for address a, where all below were taken for merges.
func elder(a int) []api.Back {
	backs := []api.Back{{Stream: 0}, {Stream: 1}, {Stream: 2}}
	for i := range backs {
		for at := a - 1; at >= max(0, a-4); at-- {
			backs[i].Addresses = append(backs[i].Addresses, at)
		}
	}
	return backs
}

// until steps a writer behind so many filled addresses, to where it would ask anew, or write.
func until(t *testing.T, name string, w *writer.Writer, c *scene, p plan.Plan, times int) {
	t.Helper()
	fill := fillings()[name]
	for i := range times {
		must(t, fill(c.us(), p, next(t, c.s)))
		if n := w.Step(c.us(), p, c.s); n != writer.Writing || w.Address() != i || w.Copies() != 0 {
			t.Fatalf("%s, asked %d times before: %d, at %d, %d copies", name, i, n, w.Address(), w.Copies())
		}
		if n := w.Step(c.us(), p, c.s); n != writer.Asking || w.Address() != i || w.Copies() != 0 || w.Err() != nil {
			t.Fatalf("%s, filled %d times before: %d, at %d, %d copies, %v", name, i, n, w.Address(), w.Copies(), w.Err())
		}
	}
}

func TestFilled(t *testing.T) {
	for name := range fillings() {
		for times := range 8 {
			c, p := newScene(t, 2, 4, 1), sized(2, 2, 2)
			w, err := writer.New(merge())
			must(t, err)
			until(t, name, w, c, p, times)
			for k, want := range []int{writer.Writing, writer.Writing, writer.Done} {
				if n := w.Step(c.us(), p, c.s); n != want || w.Address() != times || w.Copies() != k || w.Err() != nil {
					t.Fatalf("%s %d times, step %d: %d, at %d, %d copies, %v", name, times, k, n, w.Address(), w.Copies(), w.Err())
				}
			}
			b, err := chain.Read(c.us(), p, times)
			must(t, err)
			e, backs, err := page.Read(b)
			if err != nil || !likeEntry(e, merge()) || !likeBack(backs[2], elder(times)[2]) || next(t, c.s) != times+1 {
				t.Errorf("%s %d times: there is %v, %v, %v", name, times, e, backs, err)
			}
		}
	}
}

func TestFilledEightTimes(t *testing.T) {
	for name := range fillings() {
		for _, k := range []struct {
			name string
			s    *token.Sequencer // nil: its own one
			none bool
			p    plan.Plan
			err  error
		}{
			{"its sequencer", nil, false, sized(2, 2, 2), api.ErrState},
			{"no sequencer", nil, true, sized(2, 2, 2), api.ErrDown},
			{"no sequencer by another epoch", nil, true, sized(3, 2, 2), api.ErrDown},
			{"another epoch", nil, false, sized(3, 2, 2), api.ErrState},
			{"a later one's plan and sequencer", sequencer(t, 3, 9), false, sized(3, 2, 2), api.ErrState},
			{"a plan that isn't right", nil, false, plan.Plan{Epoch: -1}, api.ErrState},
			{"a full log", sequencer(t, 2, 4096), false, sized(2, 2, 2), api.ErrState},
		} {
			c, p := newScene(t, 2, 4, 1), sized(2, 2, 2)
			w, err := writer.New(merge())
			must(t, err)
			until(t, name, w, c, p, 8)
			s := c.s
			if k.s != nil || k.none {
				s = k.s
			}
			before := c.twin(t)
			for i := range 3 {
				if n := w.Step(c.us(), k.p, s); n != writer.Failed || w.State() != writer.Failed || w.Err() != k.err || w.Address() != 7 || w.Copies() != 0 {
					t.Errorf("%s, %s, step %d: %d, %d, %s, at %d, %d copies", name, k.name, i, n, w.State(), text(w.Err()), w.Address(), w.Copies())
				}
				if wrong := c.differs(t, before); wrong != "" {
					t.Errorf("%s, %s, step %d: %s", name, k.name, i, wrong)
				}
				s = c.s
			}
			if k.s != nil && len(k.s.Backs()) != 0 {
				t.Errorf("%s, %s: it has asked", name, k.name)
			}
		}
	}
}

// P15.1: an address of a later epoch is taken, and written, by that one; times are counted over all epochs.

func TestFilledOverEpochs(t *testing.T) {
	c := newScene(t, 0, 2, 1)
	w, err := writer.New(merge())
	must(t, err)
	for epoch := range 8 {
		p := sized(epoch, 1, 1)
		c.s = sequencer(t, epoch, 2*epoch)
		must(t, fillings()["Fill"](c.all, p, 2*epoch))
		for _, want := range []int{writer.Writing, writer.Asking} {
			if n := w.Step(c.all, p, c.s); n != want || w.Address() != 2*epoch {
				t.Fatalf("by epoch %d: %d, at %d, %v", epoch, n, w.Address(), w.Err())
			}
		}
		c.seal(t, epoch+1, 0, 1)
	}
	if n := w.Step(c.all, sized(8, 1, 1), sequencer(t, 8, 16)); n != writer.Failed || w.Err() != api.ErrState {
		t.Errorf("at the ninth time: %d, %v", n, w.Err())
	}
}

func TestLaterEpoch(t *testing.T) {
	for _, epochs := range [][2]int{{0, 1}, {0, 1 << 30}, {5, 4}, {7, 7}} {
		c := newScene(t, epochs[0], 2, 1)
		w, err := writer.New(merge())
		must(t, err)
		until(t, "Fill", w, c, sized(epochs[0], 2), 1)
		c.s = sequencer(t, epochs[1], 6)
		for _, want := range []int{writer.Writing, writer.Writing, writer.Done} {
			if n := w.Step(c.all, sized(epochs[1], 2), c.s); n != want || w.Address() != 6 {
				t.Fatalf("by epochs %v: %d, at %d, %v", epochs, n, w.Address(), w.Err())
			}
		}
		// And by the first one's it isn't written any more.
		w, err = writer.New(merge())
		must(t, err)
		w.Step(c.all, sized(epochs[1], 2), c.s)
		want := api.ErrSealed
		if epochs[0] == epochs[1] {
			want = nil
		}
		if w.Step(c.all, sized(epochs[0], 2), c.s); w.Err() != want {
			t.Errorf("by epochs %v: %v", epochs, w.Err())
		}
	}
}

// P15.1: others may have written later copies, and the same: they count as written.

func TestOthersFinish(t *testing.T) {
	p := sized(0, 3)
	for behind := 1; behind <= 3; behind++ {
		for _, read := range []bool{true, false} {
			c := newScene(t, 0, 3, 1)
			w, err := writer.New(merge())
			must(t, err)
			for range 1 + behind {
				w.Step(c.all, p, c.s)
			}
			if read {
				_, err = chain.Read(c.all, p, 0)
			} else {
				_, err = chain.Fill(c.all, p, 0)
			}
			must(t, err)
			for k := behind; k < 3; k++ {
				if w.State() != writer.Writing || w.Copies() != k || !c.all[2].Has(0) {
					t.Errorf("behind %d copies, and %d of somebody else: %d, %d copies", behind, k-behind, w.State(), w.Copies())
				}
				w.Step(c.all, p, c.s)
			}
			if w.State() != writer.Done || w.Copies() != 3 || w.Address() != 0 || next(t, c.s) != 1 {
				t.Errorf("behind %d copies: %d, %d copies, %v", behind, w.State(), w.Copies(), w.Err())
			}
		}
	}
}

// P15.1: Append.

func TestAppend(t *testing.T) {
	all, _ := kinds()
	for name, fill := range fillings() {
		for times := range 10 {
			c, p := newScene(t, 2, 5, 1), sized(2, 2, 3)
			for a := range times {
				must(t, fill(c.us(), p, a))
			}
			e := all[times%len(all)]
			want, wrong := times, error(nil)
			if times >= 8 {
				want, wrong = 0, api.ErrState
			}
			a, err := writer.Append(c.us(), p, c.s, e)
			if a != want || err != wrong || next(t, c.s) != min(times+1, 8) {
				t.Errorf("%s %d times: %d, %v, then the next one is %d", name, times, a, err, next(t, c.s))
			}
		}
	}
}

func TestAppendFails(t *testing.T) {
	for _, f := range faults() {
		if f.p.Epoch != 3 || f.err == api.ErrRange {
			continue
		}
		for k := f.from; k < 3; k++ {
			c := newScene(t, 3, 5, 1)
			c.s = sequencer(t, 3, 4)
			f.do(t, c, k)
			a, err := writer.Append(c.us(), f.p, c.s, merge())
			if a != 0 || err != f.err || next(t, c.s) != 5 {
				t.Errorf("%s, copy %d: %d, %v", f.name, k, a, err)
			}
			for i, u := range c.all[:k] {
				if u.Has(2) != (f.err != api.ErrForm) {
					t.Errorf("%s, copy %d: copy %d is there: %v", f.name, k, i, u.Has(2))
				}
			}
		}
	}
	c := newScene(t, 3, 5, 1)
	for _, k := range []struct {
		s   *token.Sequencer
		p   plan.Plan
		err error
	}{
		{nil, sound(), api.ErrDown},
		{nil, plan.Plan{}, api.ErrDown},
		{c.s, sized(4, 1), api.ErrSealed},
		{c.s, plan.Plan{}, api.ErrSealed},
		{sequencer(t, 3, 4096), sound(), api.ErrFull},
		{sequencer(t, 0, 0), plan.Plan{}, api.ErrForm},
	} {
		if a, err := writer.Append(c.all, k.p, k.s, merge()); a != 0 || err != k.err {
			t.Errorf("by epoch %d: %d, %v, not %v", k.p.Epoch, a, err, k.err)
		}
	}
	if next(t, c.s) != 0 {
		t.Error("an address was taken")
	}
}

// P15.1: all of a log is appended to, one address behind the other.

func TestAppendAll(t *testing.T) {
	c, p := newScene(t, 0, 2, 16), sized(0, 1, 1)
	all, _ := kinds()
	at := 0
	for ; at < 100; at++ {
		if a, err := writer.Append(c.all, p, c.s, all[at%len(all)]); a != at || err != nil {
			t.Fatalf("append %s answers %d, %v", strconv.Itoa(at), a, err)
		}
	}
	c.s = sequencer(t, 0, 4095)
	if a, err := writer.Append(c.all, p, c.s, merge()); a != 4095 || err != nil {
		t.Errorf("the last one answers %d, %v", a, err)
	}
	if a, err := writer.Append(c.all, p, c.s, merge()); a != 0 || err != api.ErrFull {
		t.Errorf("the one behind answers %d, %v", a, err)
	}
}
