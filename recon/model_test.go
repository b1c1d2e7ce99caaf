package recon_test

import (
	"bytes"
	"iter"
	"math"
	"slices"
	"strconv"
	"testing"

	"tidewater/api"
	"tidewater/book"
	"tidewater/chain"
	"tidewater/disk"
	"tidewater/entry"
	"tidewater/page"
	"tidewater/plan"
	"tidewater/recon"
	"tidewater/token"
	"tidewater/unit"
)

// odd is numbers that are wrong wherever the document names a bound.
func odd() []int {
	return []int{math.MinInt, math.MinInt + 1, -1 << 32, -1 << 31, -2, -1, 1<<30 + 1, 1 << 31, 1 << 32, 1<<32 + 1, 1 << 62, math.MaxInt - 1, math.MaxInt}
}

// must asks for no error.
func must(t *testing.T, err error) {
	if err != nil {
		t.Helper()
		t.Fatal(err)
	}
}

// text is an error as it is told.
func text(err error) string {
	if err == nil {
		return "none"
	}
	return err.Error()
}

// by is a plan of an epoch.
func by(epoch int, chains ...[]int) plan.Plan { return plan.Plan{Epoch: epoch, Chains: chains} }

// entryOf is a right entry of some of the streams that there may be: one, two or three.
func entryOf(streams ...int) api.Entry {
	switch len(streams) {
	case 1:
		return api.Entry{Kind: api.Write, Shard: streams[0], Client: 1, Seq: 1, Ops: []api.Op{{Kind: api.Del, Key: "k"}}}
	case 2:
		return api.Entry{Kind: api.Move, Shard: streams[1], Server: 1}
	}
	return api.Entry{Kind: api.Merge, Shard: streams[1], Other: streams[2]}
}

// pageOf is a page of an entry of some streams that tells of nothing elder.
func pageOf(t *testing.T, streams ...int) []byte {
	t.Helper()
	e := entryOf(streams...)
	var backs []api.Back
	for _, s := range entry.Streams(e) {
		backs = append(backs, api.Back{Stream: s})
	}
	b, err := page.Bytes(e, backs)
	must(t, err)
	return b
}

// A scene is what a way works on: units by number, all of which may come up, their devices, and a book.
type scene struct {
	all chain.Units
	ds  []*disk.Device
	up  []bool
	b   *book.Book
}

// newScene is so many new units of so many segments, and a book of three voters.
func newScene(t *testing.T, p plan.Plan, count, segments int) *scene {
	t.Helper()
	b, err := book.New(3, p)
	must(t, err)
	c := &scene{b: b}
	for range count {
		d, err := disk.New(segments * 64)
		must(t, err)
		c.add(t, d)
	}
	return c
}

// add adds a device's unit.
func (c *scene) add(t *testing.T, d *disk.Device) {
	u, err := unit.Open(d)
	must(t, err)
	c.all, c.ds, c.up = append(c.all, u), append(c.ds, d), append(c.up, true)
}

// us is the units, those that are down being nil.
func (c *scene) us() chain.Units {
	us := slices.Clone(c.all)
	for i, up := range c.up {
		if !up {
			us[i] = nil
		}
	}
	return us
}

// twin is a scene that holds the same, and shares nothing. (What is on devices is durable behind each call.)
func (c *scene) twin(t *testing.T) *scene {
	d := &scene{b: c.b.Copy()}
	for _, from := range c.ds {
		to, err := disk.From(from.Image())
		must(t, err)
		d.add(t, to)
	}
	d.up = slices.Clone(c.up)
	return d
}

// differs is how a scene differs from another one.
func (c *scene) differs(d *scene) string {
	if c.b.Known() != d.b.Known() || !plan.Same(c.b.Latest(), d.b.Latest()) {
		return "the book knows " + strconv.Itoa(c.b.Known()) + " plans, not " + strconv.Itoa(d.b.Known()) + ", or another one"
	}
	for i := range c.ds {
		u, v := c.all[i], d.all[i]
		if !bytes.Equal(c.ds[i].Image(), d.ds[i].Image()) || u.Tail() != v.Tail() || u.Trimmed() != v.Trimmed() || u.Epoch() != v.Epoch() {
			return "unit " + strconv.Itoa(i) + " has tail " + numbers(u.Tail(), u.Trimmed(), u.Epoch()) + " (trimmed, epoch), not " + numbers(v.Tail(), v.Trimmed(), v.Epoch()) + ", or its device has something else"
		}
	}
	return ""
}

// numbers is numbers as text.
func numbers(all ...int) string {
	text := ""
	for _, n := range all {
		text += " " + strconv.Itoa(n)
	}
	return text
}

// put writes a page on units, at an own address.
func (c *scene) put(t *testing.T, at int, b []byte, units ...int) {
	t.Helper()
	for _, i := range units {
		must(t, c.all[i].Write(c.all[i].Epoch(), at, b))
	}
}

// choke fills a unit with pages of great own addresses, up to where no record has room.
func choke(t *testing.T, u *unit.Unit) {
	t.Helper()
	at, size := 4000, 1500
	for size > 0 {
		switch err := u.Write(u.Epoch(), at, make([]byte, size)); err {
		case nil:
			at++
		case api.ErrFull:
			size /= 40
		default:
			t.Fatal(err)
		}
	}
}

// A told is a way as the words have it, one word behind the other: each Step goes on where the last one ended.
type told struct {
	next   plan.Plan
	fresh  int
	ballot int
	state  int
	err    error
	s      *token.Sequencer
	us     chain.Units // of the step that is being done
	b      *book.Book
	on     func() (struct{}, bool)
}

// newTold is the words' way to a next plan.
func newTold(t *testing.T, next plan.Plan, fresh, ballot int) *told {
	o := &told{next: next, fresh: fresh, ballot: ballot, state: 1}
	on, stop := iter.Pull(o.waits)
	t.Cleanup(stop)
	o.on = on
	on()
	return o
}

// step is one step.
func (o *told) step(us chain.Units, b *book.Book) int {
	o.us, o.b = us, b
	o.on()
	return o.state
}

// waits goes through the words, and waits for a step ahead of each thing that is done.
func (o *told) waits(yield func(struct{}) bool) {
	o.words(func(do func() error) bool {
		if !yield(struct{}{}) {
			return false
		}
		o.err = do()
		if o.err != nil {
			o.state = 6
		}
		return o.err == nil
	})
}

// words is all that is done, in order.
func (o *told) words(do func(func() error) bool) {
	for n := range 12 {
		if slices.Contains(slices.Concat(o.next.Chains...), n) && !do(func() error { return o.seals(n) }) {
			return
		}
	}
	o.state = 2
	for _, row := range o.next.Chains {
		if !o.copies(row, do) {
			return
		}
	}
	o.state = 3
	if !do(o.decides) {
		return
	}
	o.state = 4
	if do(o.begins) {
		o.state = 5
	}
}

// is is a unit that is up, or nil.
func (o *told) is(n int) *unit.Unit {
	if n < len(o.us) {
		return o.us[n]
	}
	return nil
}

func (o *told) seals(n int) error {
	u := o.is(n)
	if u == nil {
		return api.ErrDown
	}
	if _, err := u.Seal(o.next.Epoch); err != nil {
		return err
	}
	if n == o.fresh && u.Tail() > 0 {
		return api.ErrState
	}
	return nil
}

// copies is what is done with a chain.
func (o *told) copies(row []int, do func(func() error) bool) bool {
	from := 0
	for _, n := range row {
		if !do(func() error {
			from = 0
			for _, m := range row {
				if o.is(m) == nil {
					return api.ErrDown
				}
				from = max(from, o.is(m).Trimmed())
			}
			return o.is(n).Trim(o.next.Epoch, from)
		}) {
			return false
		}
	}
	for at := from; at < o.is(row[0]).Tail(); at++ {
		if !do(func() error { return o.copied(row, at) }) {
			return false
		}
	}
	return true
}

// copied is what is done at an own address.
func (o *told) copied(row []int, at int) error {
	u := o.is(row[0])
	if u == nil {
		return api.ErrDown
	}
	b, err := u.Read(o.next.Epoch, at)
	if err == api.ErrUnwritten || err == api.ErrTrimmed {
		return nil
	}
	if err != nil {
		return err
	}
	for _, n := range row[1:] {
		w := o.is(n)
		if w == nil {
			return api.ErrDown
		}
		err := w.Write(o.next.Epoch, at, b)
		if err == api.ErrWritten {
			has, _ := w.Read(o.next.Epoch, at)
			if !bytes.Equal(has, b) {
				return api.ErrState
			}
			continue
		}
		if err != nil {
			return err
		}
	}
	return nil
}

func (o *told) decides() error {
	got, err := o.b.Propose(o.ballot, o.next, []int{0, 1, 2, 3, 4})
	if err != nil {
		return err
	}
	if !plan.Same(got, o.next) {
		return api.ErrClash
	}
	return nil
}

func (o *told) begins() error {
	s, err := scans(o.us, o.next)
	o.s = s
	return err
}

// scans is a sequencer of what a log has, by the words: all addresses of each stream are told apart, from the tail down.
func scans(us chain.Units, p plan.Plan) (*token.Sequencer, error) {
	tail, err := chain.Tail(us, p)
	if err != nil {
		return nil, err
	}
	found := map[int][]int{}
	for a := tail - 1; a >= 0; a-- {
		b, err := chain.Read(us, p, a)
		if err == api.ErrUnwritten || err == api.ErrTrimmed {
			continue
		}
		if err != nil {
			return nil, err
		}
		for s := range 13 {
			if _, has := page.Backs(b, s); has {
				found[s] = append(found[s], a)
			}
		}
	}
	var backs []api.Back
	for s := range 13 {
		backs = append(backs, api.Back{Stream: s, Addresses: found[s][:min(4, len(found[s]))]})
	}
	return token.New(p.Epoch, tail, backs)
}

// alike is how a sequencer differs from another one; both may be nil.
func alike(s, w *token.Sequencer) string {
	if s == nil || w == nil {
		if s != w {
			return "there is one sequencer of two"
		}
		return ""
	}
	a, err := s.Next(w.Epoch())
	b, _ := w.Next(w.Epoch())
	if err != nil || a != b {
		return "its next address is " + strconv.Itoa(a) + ", not " + strconv.Itoa(b) + ", or its epoch another one"
	}
	like := func(a, b api.Back) bool { return a.Stream == b.Stream && slices.Equal(a.Addresses, b.Addresses) }
	if !slices.EqualFunc(s.Backs(), w.Backs(), like) {
		return "it holds other addresses of streams"
	}
	return ""
}

// wrong is how a way differs from what is told of it.
func (o *told) wrong(r *recon.Recon) string {
	switch {
	case r.State() != o.state:
		return "State is " + strconv.Itoa(r.State()) + ", not " + strconv.Itoa(o.state) + " (" + text(r.Err()) + ", " + text(o.err) + ")"
	case r.Err() != o.err:
		return "Err is " + text(r.Err()) + ", not " + text(o.err)
	case !plan.Same(r.Next(), o.next):
		return "Next is another one"
	}
	return alike(r.Sequencer(), o.s)
}

// A pair is a way on a scene, and the words' one on a twin of it.
type pair struct {
	r *recon.Recon
	o *told
}

// newPair is a way from a plan, whose next plan is known.
func newPair(t *testing.T, p plan.Plan, gone []int, fresh, ballot int) *pair {
	t.Helper()
	r, err := recon.New(p, gone, fresh, ballot)
	must(t, err)
	next, err := plan.Replace(p, gone, fresh)
	must(t, err)
	return &pair{r, newTold(t, next, fresh, ballot)}
}

// step is a step of both, on a scene and on its twin: what is wrong behind it.
func (r *pair) step(c, twin *scene) string {
	got, want := r.r.Step(c.us(), c.b), r.o.step(twin.us(), twin.b)
	if got != want {
		return "Step answers " + strconv.Itoa(got) + ", not " + strconv.Itoa(want) + " (" + text(r.r.Err()) + ", " + text(r.o.err) + ")"
	}
	if wrong := r.o.wrong(r.r); wrong != "" {
		return wrong
	}
	return c.differs(twin)
}
