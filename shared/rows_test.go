package shared_test

import (
	"fmt"
	"math/rand"
	"slices"
	"strconv"
	"strings"
	"sync"
	"testing"

	"tidewater/api"
	"tidewater/chain"
	"tidewater/page"
	"tidewater/plan"
	"tidewater/shared"
	"tidewater/writer"
)

// P17.1: in every order: all short rows of calls and of what happens between, and long thrown ones, each answer and all that units and sequencer hold held against the words.

// A run is a log that goes on, and the words' twin of all that it is of.
type run struct {
	c, twin *scene
	l       *shared.Log
}

// newRun is a log on new units by a plan.
func newRun(t *testing.T, p plan.Plan, count, segments int) *run {
	t.Helper()
	r := &run{c: newScene(t, p, count, segments)}
	r.twin = r.c.twin(t)
	r.l = r.c.log()
	return r
}

// A move is something that happens to a run: what is wrong behind it, and the error that a call answers.
type move struct {
	name string
	do   func(r *run) (string, error)
}

// asking is a call.
func asking(k call) move {
	return move{k.name, func(r *run) (string, error) {
		wrong, want := k.puts(r.l, r.c, r.twin)
		return wrong, want.err
	}}
}

// happening is what befalls both scenes alike. The log stays the same, if what it is of does.
func happening(name string, anew bool, do func(c *scene)) move {
	return move{name, func(r *run) (string, error) {
		do(r.c)
		do(r.twin)
		if anew {
			r.l = r.c.log()
		}
		return r.c.differs(r.twin), nil
	}}
}

// calls is calls of all sorts about a few addresses.
func calls() []move {
	wrong := api.Entry{Kind: api.Move, Shard: 1}
	var all []move
	for _, k := range []call{
		appending(merge()), appending(entryOf(1)), appending(wrong), paging(0), paging(1), paging(2), paging(-1), tailing(), newesting(1), newesting(13), beginning(),
		trimming(1), trimming(2), trimming(9), pagings(0, 1), pagings(1, 2), pagings(0, 3),
	} {
		all = append(all, asking(k))
	}
	return all
}

// happenings is what others do, and what befalls units and the sequencer.
func happenings(t *testing.T) []move {
	return []move{
		happening("an address is taken", false, func(c *scene) {
			if c.s != nil {
				c.s.Take(c.p.Epoch, []int{1})
			}
		}),
		happening("a first copy is written", false, func(c *scene) {
			w, err := writer.New(merge())
			must(t, err)
			w.Step(c.us(), c.p, c.s)
			w.Step(c.us(), c.p, c.s)
		}),
		happening("bytes that are no page", false, func(c *scene) {
			if c.s != nil {
				at, _, err := c.s.Take(c.p.Epoch, []int{1})
				if err == nil {
					chain.Write(c.us(), c.p, at, []byte("x"))
				}
			}
		}),
		happening("a second copy has junk", false, func(c *scene) {
			tail, _ := chain.Tail(c.all, c.p)
			chain.Step(c.us(), c.p, tail, 1, page.Junk())
		}),
		happening("the first unit is trimmed", false, func(c *scene) { c.all[0].Trim(1<<30, 1) }),
		happening("the last unit is trimmed", false, func(c *scene) { c.all[len(c.all)-1].Trim(1<<30, 1) }),
		happening("the first unit comes or goes", true, func(c *scene) { c.up[0] = !c.up[0] }),
		happening("the last unit comes or goes", true, func(c *scene) { c.up[len(c.up)-1] = !c.up[len(c.up)-1] }),
		happening("the first unit is sealed", false, func(c *scene) { c.all[0].Seal(c.p.Epoch + 1) }),
		happening("the sequencer is lost", true, func(c *scene) { c.s = nil }),
		happening("the next epoch", true, func(c *scene) {
			c.p = plan.Plan{Epoch: c.p.Epoch + 1, Chains: c.p.Chains}
			n, _ := chain.Tail(c.all, c.p)
			c.s = sequencer(t, c.p.Epoch, n)
		}),
	}
}

// eachRow goes through all rows of so many moves that begin with some.
func eachRow(all, begun []move, count int, do func(row []move)) {
	if len(begun) == count {
		do(begun)
		return
	}
	for _, m := range all {
		eachRow(all, append(begun[:len(begun):len(begun)], m), count, do)
	}
}

// goes does a row's moves.
func (r *run) goes(t *testing.T, row []move) {
	t.Helper()
	var names []string
	for _, m := range row {
		names = append(names, m.name)
		if wrong, _ := m.do(r); wrong != "" {
			t.Fatalf("%s: %s", strings.Join(names, ", "), wrong)
		}
	}
}

func TestShortRows(t *testing.T) {
	all := append(calls(), happenings(t)...)
	for _, k := range []struct {
		sizes string
		p     plan.Plan
		begun int // appends
		more  int // moves behind them
	}{
		{"one copy", by(0, []int{0}), 1, 3}, {"two copies", by(0, []int{0, 1}), 0, 2}, {"two copies", by(0, []int{0, 1}), 2, 3}, {"two chains", by(0, []int{0}, []int{1}), 0, 2}, {"two chains", by(0, []int{0}, []int{1}), 3, 2},
	} {
		for _, first := range all {
			t.Run(fmt.Sprintf("%s, %d appends, %s", k.sizes, k.begun, first.name), func(t *testing.T) {
				t.Parallel()
				row := append(slices.Repeat(all[:1], k.begun), first)
				eachRow(all, row, k.begun+k.more, func(row []move) {
					newRun(t, k.p, len(plan.Units(k.p)), 1).goes(t, row)
				})
			})
		}
	}
}

// thrown is a move that chance makes: mostly a call.
func thrown(t *testing.T, r *rand.Rand, tail int, often int) move {
	if between := happenings(t); r.Intn(24) < often {
		// A log without a sequencer, or with one unit, soon has nothing to tell.
		if i := r.Intn(len(between)); i < 9 || r.Intn(3) == 0 {
			return between[i]
		}
		return between[len(between)-1]
	}
	entries, _ := kinds()
	entries = append(entries, api.Entry{Kind: api.Move, Shard: 13, Server: 1})
	at := func() int { return r.Intn(tail+3) - 1 }
	switch n := r.Intn(20); {
	case n < 8:
		return asking(appending(entries[r.Intn(len(entries))]))
	case n < 12:
		return asking(paging(at()))
	case n < 13:
		return asking(tailing())
	case n < 14:
		return asking(newesting(r.Intn(15) - 1))
	case n < 16:
		return asking(beginning())
	case n < 17:
		return asking(trimming(max(at()-r.Intn(8), -1)))
	}
	from := at()
	return asking(pagings(from, min(from+r.Intn(8), at())))
}

func TestThrownRows(t *testing.T) {
	var mutex sync.Mutex
	answers := map[error]int{}
	t.Run("rows", func(t *testing.T) {
		for n := range 400 {
			t.Run(strconv.Itoa(n), func(t *testing.T) {
				t.Parallel()
				mine := thrownRow(t, n)
				mutex.Lock()
				defer mutex.Unlock()
				for err, count := range mine {
					answers[err] += count
				}
			})
		}
	})
	for _, err := range []error{nil, api.ErrRange, api.ErrSealed, api.ErrTrimmed, api.ErrDown, api.ErrForm, api.ErrState} {
		if answers[err] < 20 {
			t.Errorf("just these answers: %v", answers)
		}
	}
}

// thrownRow does a thrown row of some number: how often each error was answered.
func thrownRow(t *testing.T, n int) map[error]int {
	t.Helper()
	r := rand.New(rand.NewSource(int64(n)))
	p := shapes(n % 3)[n%8]
	on := newRun(t, p, len(plan.Units(p)), 8)
	answers := map[error]int{}
	var last string
	for range 100 {
		tail, _ := chain.Tail(on.c.all, p)
		m := thrown(t, r, tail, n/8%8)
		wrong, err := m.do(on)
		if wrong != "" {
			t.Fatalf("%s, then %s: %s", last, m.name, wrong)
		}
		answers[err]++
		last = m.name
		if r.Intn(12) == 0 {
			on.rises()
		}
	}
	return answers
}

// rises lets all units be up.
func (r *run) rises() {
	for i := range r.c.up {
		r.c.up[i], r.twin.up[i] = true, true
	}
	r.l = r.c.log()
}

// P17.1: a row written out by hand, of one log and what others do to what it is of.

func TestKnownRow(t *testing.T) {
	p := by(1, []int{0, 1}, []int{2})
	c := newScene(t, p, 3, 1)
	l := c.log()
	told := func(at int, streams ...int) string {
		got, err := l.Page(at)
		if err != nil {
			return err.Error()
		}
		if got.Junk {
			return fmt.Sprintf("junk at %d", got.At)
		}
		return fmt.Sprintf("%d at %d behind %v", got.Entry.Kind, got.At, got.Backs)
	}
	numbers := func(at int, err error) string { return fmt.Sprint(at, " ", err) }
	list := func(all any, err error) string { return fmt.Sprint(all, " ", err) }
	pages := func(from, to int) string {
		all, err := l.Pages(from, to)
		var at []int
		for _, p := range all {
			at = append(at, p.At)
		}
		return list(at, err)
	}
	take := func() string {
		at, _, err := c.s.Take(1, []int{0, 1, 4})
		return numbers(at, err)
	}
	for i, k := range []struct {
		got  func() string
		want string
	}{
		{func() string { return numbers(l.Tail()) }, "0 <nil>"},
		{func() string { return numbers(l.Begin()) }, "0 <nil>"},
		{func() string { return numbers(l.Append(entryOf(1))) }, "0 <nil>"},
		{take, "1 <nil>"},
		{func() string { return numbers(l.Append(entryOf(0, 1, 4))) }, "2 <nil>"},
		{func() string { return list(l.Newest(1)) }, "[2 1 0] <nil>"},
		{func() string { return list(l.Newest(4)) }, "[2 1] <nil>"},
		{func() string { return list(l.Newest(5)) }, "[] <nil>"},
		{func() string { return told(2) }, "4 at 2 behind [{0 [1]} {1 [1 0]} {4 [1]}]"},
		{func() string { return pages(1, 1) }, "[] <nil>"},
		{func() string { return pages(0, 3) }, "[0 2] <nil>"},
		{func() string { return told(1) }, "junk at 1"},
		{func() string { return told(3) }, "junk at 3"},
		{func() string { return numbers(l.Tail()) }, "3 <nil>"},
		{func() string { return pages(0, 4) }, "[] tidewater: range"},
		{func() string { return numbers(0, l.Trim(4)) }, "0 tidewater: range"},
		{func() string { return numbers(l.Append(entryOf(0, 4))) }, "4 <nil>"},
		{func() string { return numbers(l.Tail()) }, "5 <nil>"},
		{func() string { return told(4) }, "2 at 4 behind [{0 [3 2 1]} {4 [3 2 1]}]"},
		{func() string { return numbers(0, l.Trim(2)) }, "0 <nil>"},
		{func() string { return told(1) }, "tidewater: trimmed"},
		{func() string { return numbers(l.Begin()) }, "2 <nil>"},
		{func() string { return pages(0, 5) }, "[2 4] <nil>"},
		{func() string { return list(l.Newest(1)) }, "[2 1 0] <nil>"},
		{func() string { return numbers(0, l.Trim(5)) }, "0 <nil>"},
		{func() string { return numbers(l.Begin()) }, "5 <nil>"},
		{func() string { return pages(0, 5) }, "[] <nil>"},
		{func() string { return numbers(c.all[2].Seal(2)) }, "2 <nil>"},
		{func() string { return numbers(l.Append(entryOf(5))) }, "0 tidewater: sealed"},
		{func() string { return told(6) }, "junk at 6"},
		{func() string { return told(7) }, "tidewater: sealed"},
		{func() string { return pages(5, 6) }, "[] tidewater: sealed"},
		{func() string { return numbers(l.Begin()) }, "0 tidewater: sealed"},
	} {
		if got := k.got(); got != k.want {
			t.Errorf("call %d answers %s, not %s", i, got, k.want)
		}
	}
	if got, err := c.all[0].Read(1, 3); err != nil || !page.IsJunk(got) {
		t.Errorf("at 6 there is %q, %v", got, err)
	}
}
