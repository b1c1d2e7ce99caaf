package writer_test

import (
	"bytes"
	"math"
	"slices"
	"strconv"
	"strings"
	"testing"

	"tidewater/api"
	"tidewater/chain"
	"tidewater/disk"
	"tidewater/entry"
	"tidewater/page"
	"tidewater/plan"
	"tidewater/token"
	"tidewater/unit"
	"tidewater/writer"
)

// odd is numbers that are wrong wherever the document names a bound.
func odd() []int {
	return []int{math.MinInt, math.MinInt + 1, -1 << 32, -1 << 31, -2, -1, 1<<30 + 1, 1 << 31, 1 << 32, 1<<32 + 1, 1 << 62, math.MaxInt - 1, math.MaxInt}
}

// must asks for no error.
func must(t *testing.T, err error) {
	if err != nil {
		t.Helper()
		t.Fatal(err)
	}
}

// sized is a plan of chains of so many units, numbered along its chains.
func sized(epoch int, sizes ...int) plan.Plan {
	p := plan.Plan{Epoch: epoch}
	number := 0
	for _, size := range sizes {
		var copies []int
		for range size {
			copies = append(copies, number)
			number++
		}
		p.Chains = append(p.Chains, copies)
	}
	return p
}

// of is a plan's chains by another epoch.
func of(epoch int, p plan.Plan) plan.Plan {
	return plan.Plan{Epoch: epoch, Chains: p.Chains}
}

// kinds is a right entry of each kind, and what its streams are.
func kinds() ([]api.Entry, [][]int) {
	return []api.Entry{
		{Kind: api.Write, Shard: 3, Client: 4, Seq: 1 << 30, Ops: []api.Op{{Kind: api.Put, Key: "ä", Value: "v"}, {Kind: api.Expect, Key: "b", Version: 4096}}},
		{Kind: api.Move, Shard: 12, Server: 4},
		{Kind: api.Split, Shard: 2, Other: 1, Server: 1, Key: "k"},
		{Kind: api.Merge, Shard: 1, Other: 12},
		{Kind: api.Check, Upto: 4096, Part: 63, Parts: 64, Data: []byte("data")},
	}, [][]int{
		{3}, {0, 12}, {0, 1, 2}, {0, 1, 12}, {0},
	}
}

// merge is the entry that the chapters write out.
func merge() api.Entry { return api.Entry{Kind: api.Merge, Shard: 1, Other: 2} }

// longest is the right entry of the most bytes.
func longest() api.Entry {
	e := api.Entry{Kind: api.Write, Shard: 12, Client: 4, Seq: 1 << 30}
	for range 8 {
		e.Ops = append(e.Ops, api.Op{Kind: api.Cas, Key: strings.Repeat("\U0010ffff", 24), Old: strings.Repeat("o", 64), Value: strings.Repeat("v", 64)})
	}
	return e
}

// twinEntry is an entry that shares nothing with another one.
func twinEntry(e api.Entry) api.Entry {
	e.Ops = append([]api.Op(nil), e.Ops...)
	e.Data = append([]byte(nil), e.Data...)
	return e
}

// likeEntry tells whether entries have the same fields, those too that their kind doesn't have; nil and empty lists are one.
func likeEntry(a, b api.Entry) bool {
	lists := slices.Equal(a.Ops, b.Ops) && bytes.Equal(a.Data, b.Data)
	numbers := func(e api.Entry) [9]int {
		return [9]int{e.Kind, e.Shard, e.Other, e.Server, e.Client, e.Seq, e.Upto, e.Part, e.Parts}
	}
	return lists && a.Key == b.Key && numbers(a) == numbers(b)
}

// A scene is what a writer works on: units, by number, all of which may come up, their devices, and a sequencer.
type scene struct {
	all chain.Units
	ds  []*disk.Device
	up  []bool
	s   *token.Sequencer
}

// newScene is so many new units of so many segments, and a new sequencer of an epoch.
func newScene(t *testing.T, epoch, count, segments int) *scene {
	t.Helper()
	c := &scene{s: sequencer(t, epoch, 0)}
	for range count {
		d, err := disk.New(segments * 64)
		must(t, err)
		c.add(t, d)
	}
	return c
}

// add adds a device's unit.
func (c *scene) add(t *testing.T, d *disk.Device) {
	u, err := unit.Open(d)
	must(t, err)
	c.all, c.ds, c.up = append(c.all, u), append(c.ds, d), append(c.up, true)
}

// sequencer is a sequencer that holds nothing of streams.
func sequencer(t *testing.T, epoch, next int) *token.Sequencer {
	t.Helper()
	s, err := token.New(epoch, next, nil)
	must(t, err)
	return s
}

// us is the units, those that are down being nil.
func (c *scene) us() chain.Units {
	us := slices.Clone(c.all)
	for i, up := range c.up {
		if !up {
			us[i] = nil
		}
	}
	return us
}

// seal seals units.
func (c *scene) seal(t *testing.T, epoch int, numbers ...int) {
	t.Helper()
	for _, i := range numbers {
		_, err := c.all[i].Seal(epoch)
		must(t, err)
	}
}

// twin is a scene that holds the same, and shares nothing. (What is on devices is durable behind each call.)
func (c *scene) twin(t *testing.T) *scene {
	d := &scene{s: c.s.Copy()}
	for _, from := range c.ds {
		to, err := disk.From(from.Image())
		must(t, err)
		d.add(t, to)
	}
	d.up = slices.Clone(c.up)
	return d
}

// next is the next address of a sequencer's own epoch.
func next(t *testing.T, s *token.Sequencer) int {
	a, err := s.Next(s.Epoch())
	must(t, err)
	return a
}

// differs is how a scene differs from another one.
func (c *scene) differs(t *testing.T, d *scene) string {
	if c.s.Epoch() != d.s.Epoch() || next(t, c.s) != next(t, d.s) || !slices.EqualFunc(c.s.Backs(), d.s.Backs(), likeBack) {
		return "the sequencer is at " + strconv.Itoa(next(t, c.s)) + ", not " + strconv.Itoa(next(t, d.s))
	}
	for i := range c.ds {
		if !bytes.Equal(c.ds[i].Image(), d.ds[i].Image()) || c.all[i].Tail() != d.all[i].Tail() {
			return "unit " + strconv.Itoa(i) + "'s tail is " + strconv.Itoa(c.all[i].Tail()) + ", not " + strconv.Itoa(d.all[i].Tail()) + ", or its device has something else"
		}
	}
	return ""
}

// likeBack tells whether backs are the same.
func likeBack(a, b api.Back) bool {
	return a.Stream == b.Stream && slices.Equal(a.Addresses, b.Addresses)
}

// A turn is a page that an address was taken for, by the words: what became of it.
type turn struct {
	epoch, at int
	b         []byte
	written   int  // copies
	filled    bool // by somebody else
}

// A told is a writer as the words have it: its entry, its turns, and its end.
type told struct {
	e     api.Entry
	turns []turn
	done  bool
	err   error
}

// step is one step by the words.
func (o *told) step(us chain.Units, p plan.Plan, s *token.Sequencer) {
	if o.done || o.err != nil {
		return
	}
	if n := len(o.turns); n > 0 && !o.turns[n-1].filled {
		o.err = o.writes(&o.turns[n-1], us, p)
		return
	}
	switch {
	case s == nil:
		o.err = api.ErrDown
	case len(o.turns) == 8:
		o.err = api.ErrState
	default:
		o.err = o.takes(p.Epoch, s)
	}
}

// takes is the step that asks.
func (o *told) takes(epoch int, s *token.Sequencer) error {
	at, backs, err := s.Take(epoch, entry.Streams(o.e))
	if err != nil {
		return err
	}
	b, err := page.Bytes(o.e, backs)
	if err != nil {
		return err
	}
	o.turns = append(o.turns, turn{epoch: epoch, at: at, b: b})
	return nil
}

// writes is a step that writes a copy.
func (o *told) writes(n *turn, us chain.Units, p plan.Plan) error {
	if p.Epoch != n.epoch {
		return api.ErrSealed
	}
	switch err := chain.Step(us, p, n.at, n.written, n.b); {
	case err == api.ErrWritten && n.written == 0:
		n.filled = true
	case err != nil:
		return err
	default:
		n.written++
		o.done = n.written == len(p.Chains[n.at%len(p.Chains)])
	}
	return nil
}

// state is its state, as the chapter's constants number them.
func (o *told) state() int {
	n := len(o.turns)
	switch {
	case o.err != nil:
		return 4
	case o.done:
		return 3
	case n > 0 && !o.turns[n-1].filled:
		return 2
	}
	return 1
}

// last is the address that it has taken last, and how many copies it has written there.
func (o *told) last() (int, int) {
	if len(o.turns) == 0 {
		return -1, 0
	}
	n := o.turns[len(o.turns)-1]
	return n.at, n.written
}

// wrong is how a writer differs from what is told of it.
func (o *told) wrong(w *writer.Writer) string {
	at, copies := o.last()
	switch {
	case w.State() != o.state():
		return "State is " + strconv.Itoa(w.State()) + ", not " + strconv.Itoa(o.state())
	case w.Address() != at:
		return "Address is " + strconv.Itoa(w.Address()) + ", not " + strconv.Itoa(at)
	case w.Copies() != copies:
		return "Copies is " + strconv.Itoa(w.Copies()) + ", not " + strconv.Itoa(copies)
	case w.Err() != o.err:
		return "Err is " + text(w.Err()) + ", not " + text(o.err)
	case !likeEntry(w.Entry(), o.e):
		return "Entry is another one"
	}
	return ""
}

// text is an error as it is told.
func text(err error) string {
	if err == nil {
		return "none"
	}
	return err.Error()
}

// A pair is a writer on a scene, and the words' one on a twin of it.
type pair struct {
	w       *writer.Writer
	o       *told
	c, twin *scene
}

// newPair is a writer of an entry.
func newPair(t *testing.T, c *scene, e api.Entry) *pair {
	t.Helper()
	w, err := writer.New(e)
	must(t, err)
	return &pair{w, &told{e: twinEntry(e)}, c, c.twin(t)}
}

// both does the same to both scenes.
func (r *pair) both(do func(c *scene)) {
	do(r.c)
	do(r.twin)
}

// step is a step of both: what is wrong behind it. The sequencer may be left out.
func (r *pair) step(t *testing.T, p plan.Plan, noSequencer bool) string {
	s, other := r.c.s, r.twin.s
	if noSequencer {
		s, other = nil, nil
	}
	state := r.w.Step(r.c.us(), p, s)
	r.o.step(r.twin.us(), p, other)
	if state != r.o.state() {
		return "Step answers " + strconv.Itoa(state) + ", not " + strconv.Itoa(r.o.state())
	}
	return r.wrong(t)
}

// wrong is what is wrong with the writer, or with what it left.
func (r *pair) wrong(t *testing.T) string {
	if wrong := r.o.wrong(r.w); wrong != "" {
		return wrong
	}
	return r.c.differs(t, r.twin)
}
