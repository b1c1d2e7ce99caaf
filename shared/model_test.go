package shared_test

import (
	"bytes"
	"fmt"
	"math"
	"slices"
	"strconv"
	"testing"

	"tidewater/api"
	"tidewater/chain"
	"tidewater/disk"
	"tidewater/entry"
	"tidewater/page"
	"tidewater/plan"
	"tidewater/shared"
	"tidewater/token"
	"tidewater/unit"
	"tidewater/writer"
)

// odd is numbers that are wrong wherever the document names a bound.
func odd() []int {
	return []int{math.MinInt, math.MinInt + 1, -1 << 32, -1 << 31, -2, -1, 1<<30 + 1, 1 << 31, 1 << 32, 1<<32 + 1, 1 << 62, math.MaxInt - 1, math.MaxInt}
}

// must asks for no error.
func must(t *testing.T, err error) {
	if err != nil {
		t.Helper()
		t.Fatal(err)
	}
}

// by is a plan of an epoch.
func by(epoch int, chains ...[]int) plan.Plan { return plan.Plan{Epoch: epoch, Chains: chains} }

// twinPlan is a plan that shares nothing with another one.
func twinPlan(p plan.Plan) plan.Plan {
	q := plan.Plan{Epoch: p.Epoch}
	for _, copies := range p.Chains {
		q.Chains = append(q.Chains, append([]int(nil), copies...))
	}
	return q
}

// entryOf is a right entry of some of the streams that there may be: one, two or three.
func entryOf(streams ...int) api.Entry {
	switch len(streams) {
	case 1:
		return api.Entry{Kind: api.Write, Shard: streams[0], Client: 1, Seq: 1, Ops: []api.Op{{Kind: api.Del, Key: "k"}}}
	case 2:
		return api.Entry{Kind: api.Move, Shard: streams[1], Server: 1}
	}
	return api.Entry{Kind: api.Merge, Shard: streams[1], Other: streams[2]}
}

// pageOf is a page of an entry of some streams that tells of nothing elder.
func pageOf(t *testing.T, streams ...int) []byte {
	t.Helper()
	e := entryOf(streams...)
	var backs []api.Back
	for _, s := range entry.Streams(e) {
		backs = append(backs, api.Back{Stream: s})
	}
	b, err := page.Bytes(e, backs)
	must(t, err)
	return b
}

// kinds is a right entry of each kind, and what its streams are.
func kinds() ([]api.Entry, [][]int) {
	return []api.Entry{
		{Kind: api.Write, Shard: 3, Client: 4, Seq: 1 << 30, Ops: []api.Op{{Kind: api.Put, Key: "ä", Value: "v"}, {Kind: api.Expect, Key: "b", Version: 4096}}},
		{Kind: api.Move, Shard: 12, Server: 4},
		{Kind: api.Split, Shard: 2, Other: 1, Server: 1, Key: "k"},
		{Kind: api.Merge, Shard: 1, Other: 12},
		{Kind: api.Check, Upto: 4096, Part: 63, Parts: 64, Data: []byte("data")},
	}, [][]int{
		{3}, {0, 12}, {0, 1, 2}, {0, 1, 12}, {0},
	}
}

// merge is the entry that most tests append.
func merge() api.Entry { return entryOf(0, 1, 2) }

// sequencer is a sequencer that holds nothing of streams.
func sequencer(t *testing.T, epoch, next int) *token.Sequencer {
	t.Helper()
	s, err := token.New(epoch, next, nil)
	must(t, err)
	return s
}

// A scene is what a log is of: units by number, all of which may come up, their devices, a plan, and a sequencer (nil: it is lost).
type scene struct {
	all chain.Units
	ds  []*disk.Device
	up  []bool
	p   plan.Plan
	s   *token.Sequencer
}

// newScene is a new log by a plan: so many units of so many segments, and a sequencer that has told nothing.
func newScene(t *testing.T, p plan.Plan, count, segments int) *scene {
	t.Helper()
	c := &scene{p: p, s: sequencer(t, p.Epoch, 0)}
	for range count {
		d, err := disk.New(segments * 64)
		must(t, err)
		c.add(t, d)
	}
	return c
}

// add adds a device's unit.
func (c *scene) add(t *testing.T, d *disk.Device) {
	u, err := unit.Open(d)
	must(t, err)
	c.all, c.ds, c.up = append(c.all, u), append(c.ds, d), append(c.up, true)
}

// us is the units, those that are down being nil.
func (c *scene) us() chain.Units {
	us := slices.Clone(c.all)
	for i, up := range c.up {
		if !up {
			us[i] = nil
		}
	}
	return us
}

// log is the log of what is up.
func (c *scene) log() *shared.Log { return shared.New(c.us(), c.p, c.s) }

// seal seals units.
func (c *scene) seal(t *testing.T, epoch int, numbers ...int) {
	t.Helper()
	for _, i := range numbers {
		_, err := c.all[i].Seal(epoch)
		must(t, err)
	}
}

// lays writes these pages at addresses from 0 on, by what the sequencer tells of none of them; where there is nil nothing is written.
func (c *scene) lays(t *testing.T, pages ...[]byte) {
	t.Helper()
	for a, b := range pages {
		if b != nil {
			must(t, chain.Write(c.all, c.p, a, b))
		}
	}
	c.s = sequencer(t, c.p.Epoch, len(pages))
}

// twin is a scene that holds the same, and shares nothing. (What is on devices is durable behind each call.)
func (c *scene) twin(t *testing.T) *scene {
	d := &scene{p: twinPlan(c.p)}
	if c.s != nil {
		d.s = c.s.Copy()
	}
	for _, from := range c.ds {
		to, err := disk.From(from.Image())
		must(t, err)
		d.add(t, to)
	}
	d.up = slices.Clone(c.up)
	return d
}

// differs is how a scene differs from another one.
func (c *scene) differs(d *scene) string {
	if got, want := heldBy(c.s), heldBy(d.s); got != want {
		return "the sequencer holds " + got + ", not " + want
	}
	for i := range c.ds {
		if !bytes.Equal(c.ds[i].Image(), d.ds[i].Image()) || c.all[i].Tail() != d.all[i].Tail() || c.all[i].Trimmed() != d.all[i].Trimmed() {
			return "unit " + strconv.Itoa(i) + "'s tail is " + strconv.Itoa(c.all[i].Tail()) + ", not " + strconv.Itoa(d.all[i].Tail()) + ", or its device has something else"
		}
	}
	return ""
}

// heldBy is what a sequencer holds, as text.
func heldBy(s *token.Sequencer) string {
	if s == nil {
		return "nothing"
	}
	next, err := s.Next(s.Epoch())
	return fmt.Sprint(s.Epoch(), next, err, s.Backs())
}

// The words of the chapter, call by call, done to a scene by the calls of the layers below.

func (c *scene) page(a int) (shared.Page, error) {
	b, err := chain.Read(c.us(), c.p, a)
	if err == api.ErrUnwritten {
		b, err = chain.Fill(c.us(), c.p, a)
	}
	if err != nil {
		return shared.Page{}, err
	}
	p := shared.Page{At: a}
	if p.Entry, p.Backs, err = page.Read(b); err != nil {
		p.Junk = true
	}
	return p, nil
}

func (c *scene) tail() (int, error) {
	if c.s == nil {
		return 0, api.ErrDown
	}
	return c.s.Next(c.p.Epoch)
}

func (c *scene) newest(stream int) ([]int, error) {
	if c.s == nil {
		return nil, api.ErrDown
	}
	return c.s.Newest(c.p.Epoch, stream)
}

func (c *scene) begin() (int, error) {
	tail, err := c.tail()
	for a := range tail {
		switch _, err := chain.Read(c.us(), c.p, tail-1-a); err {
		case api.ErrTrimmed:
			return tail - a, nil
		case nil, api.ErrUnwritten:
		default:
			return 0, err
		}
	}
	return 0, err
}

func (c *scene) trim(to int) error {
	tail, err := c.tail()
	if err != nil {
		return err
	}
	if to < 0 || tail < to {
		return api.ErrRange
	}
	return chain.Trim(c.us(), c.p, to)
}

func (c *scene) pages(from, to int) ([]shared.Page, error) {
	tail, err := c.tail()
	if err != nil {
		return nil, err
	}
	if from < 0 || tail < to {
		return nil, api.ErrRange
	}
	var all []shared.Page
	for a := from; a < to; a++ {
		p, err := c.page(a)
		if err != nil && err != api.ErrTrimmed {
			return nil, err
		}
		if err == nil && !p.Junk {
			all = append(all, p)
		}
	}
	return all, nil
}

// An answer is what a call answers: all that is told as text (nil and empty lists are one), and the error.
type answer struct {
	text string
	err  error
}

// An answers is a log that answers: the package's, or the words' one.
type answers interface {
	append(e api.Entry) (int, error)
	page(a int) (shared.Page, error)
	tail() (int, error)
	newest(stream int) ([]int, error)
	begin() (int, error)
	trim(to int) error
	pages(from, to int) ([]shared.Page, error)
}

// built is the package's log.
type built struct{ l *shared.Log }

func (b built) append(e api.Entry) (int, error)           { return b.l.Append(e) }
func (b built) page(a int) (shared.Page, error)           { return b.l.Page(a) }
func (b built) tail() (int, error)                        { return b.l.Tail() }
func (b built) newest(stream int) ([]int, error)          { return b.l.Newest(stream) }
func (b built) begin() (int, error)                       { return b.l.Begin() }
func (b built) trim(to int) error                         { return b.l.Trim(to) }
func (b built) pages(from, to int) ([]shared.Page, error) { return b.l.Pages(from, to) }

func (c *scene) append(e api.Entry) (int, error) { return writer.Append(c.us(), c.p, c.s, e) }

// A call is one of the layer's.
type call struct {
	name string
	of   func(l answers) answer
}

// told is an answer of a thing and an error.
func told[T any](thing T, err error) answer { return answer{fmt.Sprintf("%+v", thing), err} }

func appending(e api.Entry) call {
	return call{fmt.Sprintf("Append(%v)", e), func(l answers) answer { return told(l.append(e)) }}
}

func paging(a int) call {
	return call{fmt.Sprintf("Page(%d)", a), func(l answers) answer { return told(l.page(a)) }}
}

func tailing() call {
	return call{"Tail", func(l answers) answer { return told(l.tail()) }}
}

func newesting(stream int) call {
	return call{fmt.Sprintf("Newest(%d)", stream), func(l answers) answer { return told(l.newest(stream)) }}
}

func beginning() call {
	return call{"Begin", func(l answers) answer { return told(l.begin()) }}
}

func trimming(to int) call {
	return call{fmt.Sprintf("Trim(%d)", to), func(l answers) answer { return told("", l.trim(to)) }}
}

func pagings(from, to int) call {
	return call{fmt.Sprintf("Pages(%d, %d)", from, to), func(l answers) answer { return told(l.pages(from, to)) }}
}

// puts puts a call to a log that is of a scene, and to the words on the scene's twin: what is wrong, and the words' answer.
func (k call) puts(l *shared.Log, c, twin *scene) (string, answer) {
	want := k.of(twin)
	if got := k.of(built{l}); got != want {
		return fmt.Sprintf("it answers %s, %v, not %s, %v", got.text, got.err, want.text, want.err), want
	}
	return c.differs(twin), want
}

// like tells whether pages have the same fields; nil and empty lists are one.
func like(a, b shared.Page) bool { return fmt.Sprintf("%+v", a) == fmt.Sprintf("%+v", b) }
