package writer_test

import (
	"encoding/hex"
	"slices"
	"strconv"
	"strings"
	"testing"

	"tidewater/api"
	"tidewater/chain"
	"tidewater/page"
	"tidewater/plan"
	"tidewater/token"
	"tidewater/writer"
)

// P15.1: the chapter's example, and its constants.

func TestExample(t *testing.T) {
	c := newScene(t, 0, 1, 2)
	w, err := writer.New(merge())
	must(t, err)
	if n := w.Step(c.all, sized(0, 1), c.s); n != writer.Writing {
		t.Errorf("behind one step it is %d", n)
	}
	if n := w.Step(c.all, sized(0, 1), c.s); n != writer.Done {
		t.Errorf("behind two steps it is %d", n)
	}
}

func TestConstants(t *testing.T) {
	if got := []int{writer.Asking, writer.Writing, writer.Done, writer.Failed}; !slices.Equal(got, []int{1, 2, 3, 4}) {
		t.Errorf("they are %v", got)
	}
}

// P15.1: New, of right entries and of wrong ones.

func TestNew(t *testing.T) {
	all, _ := kinds()
	all = append(all, merge(), longest(),
		// Fields that the kind doesn't have.
		api.Entry{Kind: api.Merge, Shard: 1, Other: 2, Server: -1, Client: 99, Seq: -5, Ops: []api.Op{{Kind: 9}}, Key: "\xff", Upto: -1, Part: 7, Parts: -3, Data: []byte{1}})
	for _, e := range all {
		w, err := writer.New(e)
		if err != nil {
			t.Fatalf("New(%v): %v", e, err)
		}
		o := &told{e: e}
		if wrong := o.wrong(w); wrong != "" {
			t.Errorf("of a new writer of %v: %s", e, wrong)
		}
	}
}

// wrongEntries is entries that aren't right, each in another way.
func wrongEntries() []api.Entry {
	all := []api.Entry{
		{}, {Kind: 6}, {Kind: api.Merge, Shard: 1, Other: 1}, {Kind: api.Merge, Other: 1}, {Kind: api.Merge, Shard: 13, Other: 1},
		{Kind: api.Write, Shard: 1, Client: 1, Seq: 1},
		{Kind: api.Write, Shard: 1, Client: 1, Seq: 1, Ops: make([]api.Op, 9)},
		{Kind: api.Write, Shard: 1, Client: 1, Seq: 1, Ops: []api.Op{{Kind: api.Put}}},
		{Kind: api.Write, Shard: 1, Client: 1, Seq: 1, Ops: []api.Op{{Kind: api.Put, Key: "k", Value: strings.Repeat("v", 65)}}},
		{Kind: api.Move, Shard: 1, Server: 5}, {Kind: api.Split, Shard: 1, Other: 2, Server: 1},
		{Kind: api.Check, Parts: 1, Part: 1}, {Kind: api.Check, Parts: 1, Data: make([]byte, 257)},
	}
	for _, n := range odd() {
		all = append(all, api.Entry{Kind: n, Shard: 1, Other: 2}, api.Entry{Kind: api.Merge, Shard: n, Other: 2})
	}
	return all
}

func TestWrongEntries(t *testing.T) {
	for _, e := range wrongEntries() {
		if w, err := writer.New(e); w != nil || err != api.ErrForm {
			t.Errorf("New(%v) answers %v, %v", e, w, err)
		}
		c := newScene(t, 0, 1, 1)
		for _, s := range []*token.Sequencer{c.s, sequencer(t, 0, 4096), sequencer(t, 1, 0), nil} {
			if a, err := writer.Append(c.all, sized(0, 1), s, e); a != 0 || err != api.ErrForm {
				t.Errorf("Append of %v answers %d, %v", e, a, err)
			}
		}
		if next(t, c.s) != 0 {
			t.Errorf("of %v an address was taken", e)
		}
	}
}

// P15.1: an append step by step, with as many copies as there may be, of each kind of entry.

func TestSteps(t *testing.T) {
	all, streams := kinds()
	for i, e := range all {
		for copies := 1; copies <= 3; copies++ {
			c := newScene(t, 7, copies, 1)
			p := sized(7, copies)
			c.s = sequencer(t, 7, 5)
			w, err := writer.New(e)
			must(t, err)
			for k := range copies + 1 {
				want := writer.Writing
				if k == copies {
					want = writer.Done
				}
				if n := w.Step(c.us(), p, c.s); n != want || w.State() != want || w.Address() != 5 || w.Copies() != k || w.Err() != nil || !likeEntry(w.Entry(), e) {
					t.Fatalf("kind %d, copy %d of %d: %d, %d, at %d, %d copies, %v, %v", e.Kind, k, copies, n, w.State(), w.Address(), w.Copies(), w.Err(), w.Entry())
				}
				for j, u := range c.all {
					if u.Has(5) != (j < k) || next(t, c.s) != 6 {
						t.Fatalf("kind %d, behind copy %d of %d: unit %d has it: %v", e.Kind, k, copies, j, u.Has(5))
					}
				}
			}
			for stream := range 13 {
				list, err := c.s.Newest(7, stream)
				must(t, err)
				if slices.Contains(streams[i], stream) != slices.Equal(list, []int{5}) {
					t.Errorf("kind %d: of stream %d the sequencer has %v", e.Kind, stream, list)
				}
			}
		}
	}
}

// P15.1: the pages, byte by byte.

func TestKnownPages(t *testing.T) {
	c := newScene(t, 0, 5, 2)
	p := sized(0, 2, 3)
	for a, k := range []struct {
		e    api.Entry
		page string
	}{
		{merge(), "0103 00 00 00 03 040102"},
		{api.Entry{Kind: api.Write, Shard: 1, Client: 1, Seq: 1, Ops: []api.Op{{Kind: api.Del, Key: "k"}}}, "0101 0100 08 0101010101 02016b"},
		{api.Entry{Kind: api.Move, Shard: 1, Server: 2}, "0102 0100 020100 03 020102"},
		{api.Entry{Kind: api.Check, Parts: 1}, "0101 020200 06 050000010000"},
		{api.Entry{Kind: api.Split, Shard: 2, Other: 1, Server: 1, Key: "k"}, "0103 03030200 03020100 0100 06 03020101016b"},
		{merge(), "0103 0404030200 0404020100 020400 03 040102"},
		{merge(), "0103 0405040302 0405040201 03050400 03 040102"},
	} {
		if at, err := writer.Append(c.us(), p, c.s, k.e); at != a || err != nil {
			t.Fatalf("Append %d answers %d, %v", a, at, err)
		}
		want, err := hex.DecodeString(strings.ReplaceAll(k.page, " ", ""))
		must(t, err)
		for _, u := range c.all[2*(a%2) : 2+3*(a%2)] {
			if b, err := u.Read(0, a/2); err != nil || string(b) != string(want) {
				t.Errorf("at %d there is %x, %v", a, b, err)
			}
		}
	}
}

// P15.1: the longest page there is.

func TestLongest(t *testing.T) {
	c := newScene(t, 0, 1, 2)
	var backs []api.Back
	for stream := range 13 {
		backs = append(backs, api.Back{Stream: stream, Addresses: []int{4094, 4093, 4092, 4091}})
	}
	s, err := token.New(0, 4095, backs)
	must(t, err)
	if a, err := writer.Append(c.all, sized(0, 1), s, longest()); a != 4095 || err != nil {
		t.Fatalf("it answers %d, %v", a, err)
	}
	b, err := chain.Read(c.all, sized(0, 1), 4095)
	must(t, err)
	e, back, err := page.Read(b)
	if err != nil || !likeEntry(e, longest()) || !likeBack(back[0], backs[12]) {
		t.Errorf("it is read as %v, %v, %v", e, back, err)
	}
}

// P15.1: asking fails.

func TestAskingFails(t *testing.T) {
	for _, k := range []struct {
		name  string
		epoch int // the plan's
		s     *token.Sequencer
		err   error
	}{
		{"no sequencer", 3, nil, api.ErrDown},
		{"no sequencer, by a wrong epoch", -1, nil, api.ErrDown},
		{"an elder epoch", 2, sequencer(t, 3, 0), api.ErrSealed},
		{"a later epoch", 4, sequencer(t, 3, 0), api.ErrSealed},
		{"another epoch of a full log", 4, sequencer(t, 3, 4096), api.ErrSealed},
		{"epoch -1", -1, sequencer(t, 0, 0), api.ErrSealed},
		{"a full log", 3, sequencer(t, 3, 4096), api.ErrFull},
	} {
		c := newScene(t, 3, 2, 1)
		p := sized(k.epoch, 2)
		w, err := writer.New(merge())
		must(t, err)
		// It stays so, also with what it might have gone on with.
		for i := range 3 {
			if n := w.Step(c.all, p, k.s); n != writer.Failed || w.State() != writer.Failed || w.Err() != k.err || w.Address() != -1 || w.Copies() != 0 || !likeEntry(w.Entry(), merge()) {
				t.Errorf("%s, step %d: %d, %d, %v, at %d, %d copies", k.name, i, n, w.State(), w.Err(), w.Address(), w.Copies())
			}
			if k.s != nil && len(k.s.Backs()) != 0 {
				t.Errorf("%s, step %d: an address is taken", k.name, i)
			}
			k.s, p = c.s, sized(3, 2)
		}
		if next(t, c.s) != 0 || c.all[0].Tail() != 0 {
			t.Errorf("%s: it has taken or written something", k.name)
		}
	}
}

// P15.1: writing fails, at each copy.

// A fault is what befalls a writer that has written k copies of address 4 by the plan sound: the next step's plan, what happens to units, and the error. It is one from some copy on.
type fault struct {
	name string
	p    plan.Plan
	do   func(t *testing.T, c *scene, k int)
	err  error
	from int
}

// sound is the plan by which the address is taken.
func sound() plan.Plan { return sized(3, 3, 2) }

// nothing happens to units.
func nothing(*testing.T, *scene, int) {}

// junked puts junk on copy k.
func junked(t *testing.T, c *scene, k int) { must(t, c.all[k].Write(3, 2, page.Junk())) }

// choked fills copy k's unit up to where no record has room.
func choked(t *testing.T, c *scene, k int) {
	at, size := 4000, 1500
	for size > 0 {
		switch err := c.all[k].Write(3, at, make([]byte, size)); err {
		case nil:
			at++
		case api.ErrFull:
			size /= 40
		default:
			t.Fatal(err)
		}
	}
}

// faults is all of them, each with its error by the words.
func faults() []fault {
	later := of(4, sound())
	down := func(_ *testing.T, c *scene, k int) { c.up[k] = false }
	all := []fault{
		{"the plan isn't right", plan.Plan{Epoch: 3}, nothing, api.ErrForm, 0},
		{"the plan has a unit twice", plan.Plan{Epoch: 3, Chains: [][]int{{0, 1, 2}, {0}}}, nothing, api.ErrForm, 0},
		{"there is no such copy", sized(3, 1, 2), nothing, api.ErrRange, 1},
		{"it is down", sound(), down, api.ErrDown, 0},
		{"its device is down", sound(), func(_ *testing.T, c *scene, k int) { c.ds[k].Stop(0) }, api.ErrDown, 0},
		{"its device goes down", sound(), func(_ *testing.T, c *scene, k int) { c.ds[k].Stop(1) }, api.ErrDown, 0},
		{"it is sealed", sound(), func(t *testing.T, c *scene, k int) { c.seal(t, 4, k) }, api.ErrSealed, 0},
		{"it is trimmed", sound(), func(t *testing.T, c *scene, k int) { must(t, c.all[k].Trim(3, 3)) }, api.ErrTrimmed, 0},
		{"it is full", sound(), choked, api.ErrFull, 0},
		{"it has junk", sound(), junked, api.ErrState, 1},
		{"another epoch, and the plan isn't right", plan.Plan{Epoch: 4}, nothing, api.ErrSealed, 0},
		{"another epoch, and no such copy", sized(4, 1, 2), nothing, api.ErrSealed, 0},
		{"another epoch, and it is down", later, down, api.ErrSealed, 0},
		{"another epoch, and there is junk", later, junked, api.ErrSealed, 0},
		{"another epoch, and it is full", later, choked, api.ErrSealed, 0},
	}
	for _, epoch := range append(odd(), 0, 2, 4, 1<<30) {
		all = append(all, fault{"the plan's epoch is " + strconv.Itoa(epoch), of(epoch, sound()), nothing, api.ErrSealed, 0})
	}
	return all
}

func TestWritingFails(t *testing.T) {
	for _, f := range faults() {
		for k := f.from; k < 3; k++ {
			f.befalls(t, k)
		}
	}
}

// befalls lets a fault befall a writer that has written k copies.
func (f fault) befalls(t *testing.T, k int) {
	t.Helper()
	c := newScene(t, 3, 5, 1)
	c.s = sequencer(t, 3, 4)
	w, err := writer.New(merge())
	must(t, err)
	for range 1 + k {
		w.Step(c.us(), sound(), c.s)
	}
	f.do(t, c, k)
	before := c.twin(t)
	n := w.Step(c.us(), f.p, c.s)
	for i := range 3 {
		if n != writer.Failed || w.State() != writer.Failed || w.Err() != f.err || w.Address() != 4 || w.Copies() != k || !likeEntry(w.Entry(), merge()) {
			t.Errorf("%s, copy %d, step %d: %d, %d, %v, at %d, %d copies", f.name, k, i, n, w.State(), text(w.Err()), w.Address(), w.Copies())
		}
		if wrong := c.differs(t, before); wrong != "" {
			t.Errorf("%s, copy %d, step %d: %s", f.name, k, i, wrong)
		}
		// It stays so, also where all is well.
		n = w.Step(newScene(t, 3, 5, 1).all, sound(), c.s)
	}
}

// P15.1: a writer that is done does nothing more, whatever it is given.

func TestDoneStays(t *testing.T) {
	c := newScene(t, 3, 5, 1)
	w, err := writer.New(merge())
	must(t, err)
	for range 4 {
		w.Step(c.all, sound(), c.s)
	}
	before := c.twin(t)
	for _, p := range []plan.Plan{sound(), of(4, sound()), {}, sized(3, 3, 3), sized(-1, 1)} {
		for _, us := range []chain.Units{c.all, nil, newScene(t, 3, 6, 1).all} {
			for _, s := range []*token.Sequencer{c.s, nil, sequencer(t, 3, 9)} {
				if n := w.Step(us, p, s); n != writer.Done || w.State() != writer.Done || w.Err() != nil || w.Address() != 0 || w.Copies() != 3 {
					t.Errorf("it is %d, %v, at %d, %d copies", n, w.Err(), w.Address(), w.Copies())
				}
				if s != nil && len(s.Backs()) != 0 && s != c.s {
					t.Error("it has taken an address")
				}
			}
		}
	}
	if wrong := c.differs(t, before); wrong != "" {
		t.Error(wrong)
	}
}
