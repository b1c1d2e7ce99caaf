package book_test

import (
	"math"
	"math/rand"
	"slices"
	"testing"

	"tidewater/api"
	"tidewater/book"
	"tidewater/plan"
)

// P12.1: New.

func TestNew(t *testing.T) {
	for voters := 1; voters <= 5; voters++ {
		for _, epoch := range []int{0, 1, 2, 77, 1<<30 - 1, 1 << 30} {
			for shape := range 8 {
				b, m := made(t, voters, shaped(epoch, shape))
				if b.Up() != voters || b.Known() != 1 {
					t.Errorf("%d voters: %d up, %d known", voters, b.Up(), b.Known())
				}
				holds(t, b, m)
			}
		}
	}
}

func TestNewOfWrongNumbers(t *testing.T) {
	plans := append(wrongs(0), shaped(0, 2), shaped(3, 5))
	for _, voters := range append([]int{-5, -3, 0, 6, 7, 10, 1 << 30}, odd()...) {
		for _, p := range plans {
			if b, err := book.New(voters, p); b != nil || err != api.ErrRange {
				t.Errorf("%d voters, %v: %v, %v", voters, p, b, err)
			}
		}
	}
}

func TestNewOfWrongPlans(t *testing.T) {
	for voters := 1; voters <= 5; voters++ {
		for _, epoch := range []int{0, 1, 1 << 30} {
			for _, p := range wrongs(epoch) {
				if b, err := book.New(voters, p); b != nil || err != api.ErrForm {
					t.Errorf("%d voters, %v: %v, %v", voters, p, b, err)
				}
			}
		}
	}
}

// P12.1: Set and Up.

func TestSetOfAllRows(t *testing.T) {
	for voters := 1; voters <= 5; voters++ {
		for row := range 1 << 12 {
			b, m := made(t, voters, shaped(0, 0))
			for at := range 3 {
				i, up := row>>(4*at)&7-1, row>>(4*at)&8 != 0
				b.Set(i, up)
				m.set(i, up)
				if b.Up() != m.count() {
					t.Fatalf("%d voters, row %x: %d up, not %d", voters, row, b.Up(), m.count())
				}
			}
		}
	}
}

func TestSetOfNone(t *testing.T) {
	for voters := 1; voters <= 5; voters++ {
		b, m := made(t, voters, shaped(0, 0))
		for _, up := range []bool{false, true} {
			for _, i := range append([]int{-5, -voters, voters, voters + 1, 8, 64}, odd()...) {
				b.Set(i, up)
				holds(t, b, m)
			}
			for i := range voters {
				b.Set(i, false)
				m.set(i, false)
			}
		}
		if b.Up() != 0 {
			t.Errorf("%d voters: %d are up", voters, b.Up())
		}
	}
}

// P12.1: Propose: wrong inputs, and their order.

func TestProposeOfWrongPlans(t *testing.T) {
	for _, first := range []int{0, 3, 1<<30 - 1, 1 << 30} {
		b, m := made(t, 3, shaped(first, 2))
		for _, p := range append(wrongs(first+1), wrongs(first)...) {
			for _, ballot := range []int{-1, 0, 7, math.MinInt, math.MaxInt} {
				for _, asked := range [][]int{nil, {0, 1, 2}} {
					if err := puts(t, b, m, false, ballot, p, asked); err != api.ErrForm {
						t.Errorf("Propose(%d, %v): %v", ballot, p, err)
					}
				}
			}
		}
		holds(t, b, m)
	}
}

func TestProposeOfBallotsBelowNone(t *testing.T) {
	b, m := made(t, 3, shaped(4, 2))
	for _, ballot := range []int{-1, -2, -1 << 31, -1 << 32, math.MinInt} {
		for _, epoch := range []int{0, 3, 4, 5, 6, 1 << 30} {
			if err := proposes(t, b, m, ballot, shaped(epoch, 3), []int{0, 1, 2}); err != api.ErrForm {
				t.Errorf("Propose(%d) of epoch %d: %v", ballot, epoch, err)
			}
		}
	}
	holds(t, b, m)
}

func TestProposeOfEpochs(t *testing.T) {
	for _, first := range []int{0, 1, 5, 1<<30 - 2, 1<<30 - 1, 1 << 30} {
		for _, asked := range [][]int{nil, {0, 1, 2}, {9, -1}} {
			b, m := made(t, 3, shaped(first, 1))
			for _, epoch := range []int{0, 1, first - 2, first - 1, first, first + 2, first + 3, 1<<30 - 1, 1 << 30} {
				if epoch < 0 || epoch > 1<<30 || epoch == first+1 {
					continue
				}
				if err := proposes(t, b, m, 3, shaped(epoch, 2), asked); err != api.ErrEpoch {
					t.Errorf("epoch %d behind %d: %v", epoch, first, err)
				}
			}
			holds(t, b, m)
		}
	}
}

func TestProposeUpToMaxEpoch(t *testing.T) {
	b, m := made(t, 1, shaped(1<<30-2, 0))
	for _, epoch := range []int{1<<30 - 1, 1 << 30} {
		if err := proposes(t, b, m, 0, shaped(epoch, 2), []int{0}); err != nil {
			t.Errorf("epoch %d: %v", epoch, err)
		}
		holds(t, b, m)
	}
	if err := puts(t, b, m, false, 0, shaped(1<<30+1, 2), []int{0}); err != api.ErrForm {
		t.Errorf("above MaxEpoch: %v", err)
	}
	for _, epoch := range []int{1 << 30, 1<<30 - 1, 0} {
		if err := proposes(t, b, m, 0, shaped(epoch, 2), []int{0}); err != api.ErrEpoch {
			t.Errorf("epoch %d, behind MaxEpoch: %v", epoch, err)
		}
	}
}

// TestErrorsAskNobody proposes what is an error by a great ballot first: a low one must then be promised still.
func TestErrorsAskNobody(t *testing.T) {
	for _, k := range []struct {
		name   string
		ballot int
		p      plan.Plan
	}{
		{"a wrong plan", 9, plan.Plan{Epoch: 3, Chains: [][]int{{0, 0}}}},
		{"an elder epoch", 9, shaped(2, 1)},
		{"a later epoch", 9, shaped(4, 1)},
		{"a ballot below 0", -1, shaped(3, 1)},
	} {
		b, m := made(t, 3, shaped(2, 0))
		if _, err := b.Propose(k.ballot, k.p, []int{0, 1, 2}); err == nil {
			t.Errorf("%s: no error", k.name)
		}
		holds(t, b, m)
		if err := proposes(t, b, m, 0, shaped(3, 6), []int{0, 1}); err != nil {
			t.Errorf("behind %s: %v", k.name, err)
		}
	}
	b, m := made(t, 3, shaped(2, 0))
	if _, err := b.Propose(9, shaped(4, 1), []int{0, 1, 2}); err != api.ErrEpoch {
		t.Errorf("a later epoch: %v", err)
	}
	proposes(t, b, m, 1, shaped(3, 6), []int{0, 1})
	if err := proposes(t, b, m, 0, shaped(4, 6), []int{0, 1}); err != nil {
		t.Errorf("when that epoch has come: %v", err)
	}
}

// P12.1: Propose: who is asked.

func TestProposeByHand(t *testing.T) {
	for _, k := range []struct {
		name   string
		voters int
		down   []int
		asked  []int
		want   error
	}{
		{"nobody asked", 1, nil, nil, api.ErrDown},
		{"the only one", 1, nil, []int{0}, nil},
		{"the only one is down", 1, []int{0}, []int{0}, api.ErrDown},
		{"one of two", 2, nil, []int{1}, api.ErrDown},
		{"two of two", 2, nil, []int{1, 0}, nil},
		{"one of three", 3, nil, []int{2}, api.ErrDown},
		{"two of three", 3, nil, []int{2, 0}, nil},
		{"three of three", 3, nil, []int{2, 0, 1}, nil},
		{"two of three, one of them down", 3, []int{2}, []int{2, 0}, api.ErrDown},
		{"all of three, one of them down", 3, []int{2}, []int{2, 0, 1}, nil},
		{"all of three, two of them down", 3, []int{2, 1}, []int{2, 0, 1}, api.ErrDown},
		{"one that isn't asked is down", 3, []int{1}, []int{2, 0}, nil},
		{"two of four", 4, nil, []int{3, 0}, api.ErrDown},
		{"three of four", 4, nil, []int{3, 0, 1}, nil},
		{"two of five", 5, nil, []int{4, 1}, api.ErrDown},
		{"three of five", 5, nil, []int{4, 1, 0}, nil},
		{"all of five, three of them down", 5, []int{0, 1, 2}, []int{0, 1, 2, 3, 4}, api.ErrDown},
		{"all of five, two of them down", 5, []int{0, 1}, []int{0, 1, 2, 3, 4}, nil},
		{"one of three, named often", 3, nil, []int{1, 1, 1, 1}, api.ErrDown},
		{"two of three, named often", 3, nil, []int{1, 1, 2, 1, 2}, nil},
		{"one of three, and some that there aren't", 3, nil, []int{1, 3, 4, -1, math.MinInt, math.MaxInt}, api.ErrDown},
		{"two of three, and some that there aren't", 3, nil, []int{-1, 3, 1, math.MaxInt, 0, math.MinInt, 1 << 32}, nil},
	} {
		b, m := made(t, k.voters, shaped(0, 0))
		for _, i := range k.down {
			b.Set(i, false)
			m.set(i, false)
		}
		p := shaped(1, 6)
		if err := proposes(t, b, m, 0, p, k.asked); err != k.want {
			t.Errorf("%s: %v", k.name, err)
		}
		if latest := b.Latest(); k.want == nil && (b.Known() != 2 || !plan.Same(latest, p)) || k.want != nil && b.Known() != 1 {
			t.Errorf("%s: %d known, the latest is %v", k.name, b.Known(), latest)
		}
		holds(t, b, m)
	}
}

// lists is all lists of up to so many of some numbers.
func lists(most int, of ...int) [][]int {
	all := [][]int{nil}
	for at := 0; at < len(all); at++ {
		if len(all[at]) == most {
			break
		}
		for _, n := range of {
			all = append(all, append(slices.Clone(all[at]), n))
		}
	}
	return all
}

func TestProposeToAllLists(t *testing.T) {
	for voters := 1; voters <= 5; voters++ {
		all := lists(min(4, 8-voters), -1, 0, 1, 2, 3, 4, 5)
		for mask := range 1 << voters {
			for _, asked := range all {
				b, m := made(t, voters, shaped(0, 0))
				for i := range voters {
					b.Set(i, mask>>i&1 == 1)
					m.set(i, mask>>i&1 == 1)
				}
				proposes(t, b, m, mask, shaped(1, len(asked)), asked)
				holds(t, b, m)
			}
		}
	}
}

func TestProposeToAllFive(t *testing.T) {
	for up := range 32 {
		for named := range 32 {
			b, m := made(t, 5, shaped(8, 0))
			var asked []int
			for i := 4; i >= 0; i-- {
				b.Set(i, up>>i&1 == 1)
				m.set(i, up>>i&1 == 1)
				if named>>i&1 == 1 {
					asked = append(asked, i)
				}
			}
			proposes(t, b, m, 2, shaped(9, up), asked)
			holds(t, b, m)
		}
	}
}

// P12.1: Propose: ballots, and what is left of a Propose by which nothing was decided.

func TestBallots(t *testing.T) {
	for _, ballot := range []int{0, 1, 2, 1 << 30, 1 << 32, math.MaxInt} {
		b, m := made(t, 3, shaped(0, 0))
		for epoch := 1; epoch <= 3; epoch++ {
			if err := proposes(t, b, m, ballot, shaped(epoch, epoch), []int{2, 1}); err != nil {
				t.Errorf("ballot %d, epoch %d: %v", ballot, epoch, err)
			}
		}
		holds(t, b, m)
	}
}

func TestPromisesStay(t *testing.T) {
	type try struct {
		ballot int
		asked  []int
	}
	for _, k := range []struct {
		name   string
		voters int
		tries  []try // all but the last one decide nothing
		want   error
	}{
		{"a lower ballot", 3, []try{{5, []int{0}}, {4, []int{0, 1}}}, api.ErrDown},
		{"the same ballot", 3, []try{{5, []int{0}}, {5, []int{0, 1}}}, api.ErrDown},
		{"a greater ballot", 3, []try{{5, []int{0}}, {6, []int{0, 1}}}, nil},
		{"a lower ballot, enough others", 3, []try{{5, []int{0}}, {4, []int{0, 1, 2}}}, nil},
		{"a lower ballot, enough others alone", 3, []try{{5, []int{0}}, {4, []int{2, 1}}}, nil},
		{"ballot 0 twice", 3, []try{{0, []int{0}}, {0, []int{0, 1}}}, api.ErrDown},
		{"the greatest ballot twice", 3, []try{{math.MaxInt, []int{2}}, {math.MaxInt, []int{2, 1}}}, api.ErrDown},
		{"those behind one that says no promise, too", 3, []try{{5, []int{0}}, {4, []int{0, 1}}, {3, []int{1, 2}}}, api.ErrDown},
		{"those ahead of one that says no promise, too", 3, []try{{5, []int{0}}, {4, []int{1, 0}}, {3, []int{1, 2}}}, api.ErrDown},
		{"a no promises nothing", 3, []try{{5, []int{0}}, {3, []int{0, 1}}, {4, []int{1, 2}}}, nil},
		{"promises of several tries", 5, []try{{5, []int{0, 1}}, {7, []int{2, 3}}, {6, []int{0, 1, 4}}}, nil},
		{"promises of several tries, one more", 5, []try{{5, []int{0, 1}}, {7, []int{2, 3}}, {6, []int{1, 2, 4}}}, api.ErrDown},
	} {
		b, m := made(t, k.voters, shaped(0, 0))
		for i, try := range k.tries {
			err := proposes(t, b, m, try.ballot, shaped(1, i), try.asked)
			if last := i == len(k.tries)-1; !last && err != api.ErrDown || last && err != k.want {
				t.Errorf("%s: try %d: %v", k.name, i, err)
			}
		}
		holds(t, b, m)
	}
}

func TestDownVotersPromiseNothingAndForgetNothing(t *testing.T) {
	b, m := made(t, 3, shaped(0, 0))
	set := func(i int, up bool) { b.Set(i, up); m.set(i, up) }
	proposes(t, b, m, 5, shaped(1, 1), []int{0})
	set(0, false)
	set(1, false)
	if err := proposes(t, b, m, 9, shaped(1, 2), []int{0, 1}); err != api.ErrDown {
		t.Errorf("both are down: %v", err)
	}
	set(0, true)
	set(1, true)
	if err := proposes(t, b, m, 4, shaped(1, 3), []int{0, 1}); err != api.ErrDown {
		t.Errorf("a lower ballot than that promised: %v", err)
	}
	if err := proposes(t, b, m, 6, shaped(1, 4), []int{0, 1}); err != nil {
		t.Errorf("a ballot that only what was down would have refused: %v", err)
	}
	holds(t, b, m)
}

func TestEachEpochHasItsOwnPromises(t *testing.T) {
	b, m := made(t, 3, shaped(0, 0))
	proposes(t, b, m, 8, shaped(1, 1), []int{0})
	if err := proposes(t, b, m, 9, shaped(1, 2), []int{0, 1}); err != nil {
		t.Errorf("epoch 1: %v", err)
	}
	if err := proposes(t, b, m, 0, shaped(2, 3), []int{0, 1}); err != nil {
		t.Errorf("epoch 2: %v", err)
	}
	if err := proposes(t, b, m, 0, shaped(2, 4), []int{0, 1, 2}); err != api.ErrEpoch {
		t.Errorf("epoch 2 once more: %v", err)
	}
	holds(t, b, m)
}

// P12.1: At.

func TestAtOfWrongEpochs(t *testing.T) {
	for _, first := range []int{0, 6, 1<<30 - 1} {
		b, m := made(t, 3, shaped(first, 0))
		for range 2 {
			for _, epoch := range append([]int{first - 1, m.next(), m.next() + 1, m.next() + 2}, odd()...) {
				if p, err := b.At(epoch); err != api.ErrEpoch || !none(p) {
					t.Errorf("from %d on, At(%d): %v, %v", first, epoch, p, err)
				}
			}
			proposes(t, b, m, 1, shaped(first+1, 2), []int{0, 1})
		}
		holds(t, b, m)
	}
}

// P12.1: nothing is shared.

func TestNothingHandedInIsKeptOrChanged(t *testing.T) {
	first, next := twin(shaped(0, 6)), twin(shaped(1, 7))
	asked := []int{2, 0, 0, 7, -1}
	b, m := made(t, 3, first)
	proposes(t, b, m, 3, next, asked)
	if !plan.Same(first, shaped(0, 6)) || !plan.Same(next, shaped(1, 7)) || !slices.Equal(asked, []int{2, 0, 0, 7, -1}) {
		t.Errorf("changed: %v, %v, %v", first, next, asked)
	}
	spoil(first)
	spoil(next)
	holds(t, b, m)
}

func TestAnswersAreTheCallersOwn(t *testing.T) {
	b, m := made(t, 3, shaped(0, 6))
	next := twin(shaped(1, 7))
	p, err := b.Propose(3, next, []int{0, 1})
	m.propose(true, 3, next, []int{0, 1})
	if err != nil {
		t.Fatal(err)
	}
	spoil(p)
	if !plan.Same(next, shaped(1, 7)) {
		t.Errorf("what was proposed is %v", next)
	}
	holds(t, b, m)
	for range 2 {
		spoil(b.Latest())
		holds(t, b, m)
		for epoch := range 2 {
			p, err = b.At(epoch)
			if err != nil {
				t.Fatal(err)
			}
			spoil(p)
			holds(t, b, m)
		}
	}
	// Room behind a list that is answered must not be that of another one.
	p = b.Latest()
	for c := range p.Chains {
		p.Chains[c] = append(p.Chains[c], 9)
	}
	for c, chain := range p.Chains {
		if want := append(slices.Clone(shaped(1, 7).Chains[c]), 9); !slices.Equal(chain, want) {
			t.Errorf("chain %d is %v, not %v", c, chain, want)
		}
	}
	holds(t, b, m)
}

// TestZeroBook asks only that no call panics: the chapter doesn't say what a book that New didn't make answers.
func TestZeroBook(t *testing.T) {
	for _, i := range append([]int{0, 1, 5}, odd()...) {
		var b book.Book
		b.Set(i, true)
		b.Up()
		for _, epoch := range []int{0, 1, 2} {
			if p, err := b.Propose(i, shaped(epoch, 2), []int{0, 1, i}); err == nil {
				t.Errorf("Propose: %v", p)
			}
		}
		b.Latest()
		b.At(i)
		b.Known()
		b.Copy().Copy().Latest()
	}
}

// P12.1 and P12.2: every call, in every order.

// A call is one of a book.
type call struct {
	set    bool
	i      int
	up     bool
	ballot int
	ahead  int // of the latest epoch: what is proposed
	asked  []int
}

// does puts a call to a book and its model.
func does(t *testing.T, b *book.Book, m *model, c call, shape int) {
	t.Helper()
	if c.set {
		b.Set(c.i, c.up)
		m.set(c.i, c.up)
		return
	}
	epoch := m.next() - 1 + c.ahead
	puts(t, b, m, epoch >= 0 && epoch <= 1<<30, c.ballot, shaped(epoch, shape), c.asked)
}

func TestAllShortRows(t *testing.T) {
	calls := []call{
		{set: true, i: 0}, {set: true, i: 0, up: true}, {set: true, i: 1}, {set: true, i: 2},
		{ahead: 0, ballot: 3, asked: []int{0, 1, 2}}, {ahead: 2, ballot: 3, asked: []int{0, 1, 2}}, {ahead: 1, ballot: -1, asked: []int{0, 1}},
		{ahead: 1, ballot: 0, asked: nil},
	}
	for ballot := range 3 {
		for _, asked := range [][]int{{0}, {1, 0}, {2, 1, 2}} {
			calls = append(calls, call{ahead: 1, ballot: ballot, asked: asked})
		}
	}
	var longer func(row []int)
	longer = func(row []int) {
		if len(row) < 4 {
			for n := range calls {
				longer(append(row[:len(row):len(row)], n))
			}
			return
		}
		b, m := made(t, 3, shaped(0, 0))
		for at, n := range row {
			does(t, b, m, calls[n], at+n)
			holds(t, b, m)
		}
		rises(t, b)
	}
	longer(nil)
}

// throws is a call that chance makes.
func throws(r *rand.Rand, voters int) call {
	if r.Intn(3) == 0 {
		return call{set: true, i: r.Intn(voters+2) - 1, up: r.Intn(3) > 0}
	}
	c := call{ahead: 1, ballot: r.Intn(8)}
	switch r.Intn(40) {
	case 0:
		c.ahead = r.Intn(5) - 2
	case 1:
		c.ballot = odd()[r.Intn(len(odd()))]
	}
	for range r.Intn(2 * voters) {
		c.asked = append(c.asked, r.Intn(voters+2)-1)
	}
	return c
}

func TestThrownRows(t *testing.T) {
	r := rand.New(rand.NewSource(12))
	most := 0
	for n := range 1500 {
		voters := n%5 + 1
		first := []int{0, 0, 3, 1<<30 - 5, 1<<30 - 100}[r.Intn(5)]
		b, m := made(t, voters, shaped(first, n))
		for range 60 {
			does(t, b, m, throws(r, voters), r.Intn(8))
			holds(t, b, m)
		}
		rises(t, b)
		most = max(most, b.Known())
	}
	if most < 20 {
		t.Errorf("no more than %d plans were known", most)
	}
}

// P12.2: the epochs of known plans rise by one.

func TestKnownEpochsRiseByOne(t *testing.T) {
	for voters := 1; voters <= 5; voters++ {
		for _, first := range []int{0, 1, 1000, 1<<30 - 40} {
			b, m := made(t, voters, shaped(first, 5))
			for step := range 60 {
				for _, ahead := range []int{2, -1, 0, 3, 1} {
					does(t, b, m, call{ahead: ahead, ballot: step % 3, asked: []int{0, 1, 2, 3, 4}}, step)
				}
				rises(t, b)
			}
			holds(t, b, m)
			if want := min(first+60, 1<<30); b.Latest().Epoch != want || b.Known() != want-first+1 {
				t.Errorf("%d known, up to %d, not %d", b.Known(), b.Latest().Epoch, want)
			}
		}
	}
}
