package book_test

import (
	"math"
	"testing"

	"tidewater/api"
	"tidewater/book"
	"tidewater/plan"
)

// odd is numbers that are wrong wherever the document names a bound.
func odd() []int {
	return []int{math.MinInt, math.MinInt + 1, -1 << 32, -1 << 31, -2, -1, 1<<30 + 1, 1 << 31, 1 << 32, 1<<32 + 1, 1 << 62, math.MaxInt - 1, math.MaxInt}
}

// shaped is a right plan of an epoch: one of several shapes, which differ by more than the order of their numbers.
func shaped(epoch, shape int) plan.Plan {
	shapes := [][][]int{
		{{0}},
		{{11}},
		{{0, 1}, {2, 3}},
		{{1, 0}, {2, 3}},
		{{2, 3}, {0, 1}},
		{{0}, {1}, {2, 3}},
		{{9, 4, 7}, {11}, {0, 5, 3}},
		{{0, 1, 2}, {3, 4, 5}, {6, 7, 8}},
	}
	return plan.Plan{Epoch: epoch, Chains: shapes[shape%len(shapes)]}
}

// wrongs is plans of an epoch that aren't right, by each word of what is right; some of them are of another epoch.
func wrongs(epoch int) []plan.Plan {
	all := []plan.Plan{{}, {Epoch: -1, Chains: [][]int{{0}}}, {Epoch: 1<<30 + 1, Chains: [][]int{{0}}}}
	for _, chains := range [][][]int{
		nil,
		{},
		{{}},
		{{0}, nil},
		{{}, {0}},
		{{0, 1, 2, 3}},
		{{0}, {1}, {2}, {3}},
		{{-1}},
		{{12}},
		{{0, 0}},
		{{0}, {1, 0}},
		{{0}, {math.MaxInt}},
		{{math.MinInt, 1}},
	} {
		all = append(all, plan.Plan{Epoch: epoch, Chains: chains})
	}
	for _, n := range odd() {
		all = append(all, plan.Plan{Epoch: n, Chains: [][]int{{0}}})
	}
	return all
}

// none tells whether a plan is what stands beside an error.
func none(p plan.Plan) bool { return p.Epoch == 0 && len(p.Chains) == 0 }

// twin is a plan that shares nothing with another one.
func twin(p plan.Plan) plan.Plan {
	q := plan.Plan{Epoch: p.Epoch}
	for _, chain := range p.Chains {
		q.Chains = append(q.Chains, append([]int{}, chain...))
	}
	return q
}

// spoil changes all numbers of a plan's chains where they stand.
func spoil(p plan.Plan) {
	for c, chain := range p.Chains {
		for i := range chain {
			chain[i] = -99
		}
		p.Chains[c] = nil
	}
}

// A model is what the words make of a book: who is up, what each voter has promised of the next plan, and the plans.
type model struct {
	up       []bool
	promised []int // -1: nothing
	plans    []plan.Plan
}

// modelOf is a model at first.
func modelOf(voters int, first plan.Plan) *model {
	m := &model{plans: []plan.Plan{twin(first)}}
	for range voters {
		m.up, m.promised = append(m.up, true), append(m.promised, -1)
	}
	return m
}

// next is the epoch that isn't decided yet.
func (m *model) next() int { return m.plans[0].Epoch + len(m.plans) }

// set is what Set does.
func (m *model) set(i int, up bool) {
	for voter := range m.up {
		if voter == i {
			m.up[voter] = up
		}
	}
}

// count is what Up answers.
func (m *model) count() int {
	count := 0
	for _, up := range m.up {
		if up {
			count++
		}
	}
	return count
}

// asks tells which voters a Propose asks: those that are up and named once or more.
func (m *model) asks(asked []int) []bool {
	named := make([]bool, len(m.up))
	for _, i := range asked {
		for voter, up := range m.up {
			if voter == i && up {
				named[voter] = true
			}
		}
	}
	return named
}

// propose is what Propose answers of a plan of which the caller knows whether it is right. More than half promise, or nothing is accepted: so a plan that is decided is the one that is proposed.
func (m *model) propose(right bool, ballot int, p plan.Plan, asked []int) error {
	if !right || ballot < 0 {
		return api.ErrForm
	}
	if p.Epoch != m.next() {
		return api.ErrEpoch
	}
	yes := 0
	for voter, is := range m.asks(asked) {
		if is && ballot > m.promised[voter] {
			m.promised[voter] = ballot
			yes++
		}
	}
	if yes < []int{0, 1, 2, 2, 3, 3}[len(m.up)] {
		return api.ErrDown
	}
	m.plans = append(m.plans, twin(p))
	for voter := range m.promised {
		m.promised[voter] = -1
	}
	return nil
}

// copy is a model that is apart.
func (m *model) copy() *model {
	c := &model{up: append([]bool{}, m.up...), promised: append([]int{}, m.promised...)}
	for _, p := range m.plans {
		c.plans = append(c.plans, twin(p))
	}
	return c
}

// made is a book of voters, with a first plan, and its model.
func made(t *testing.T, voters int, first plan.Plan) (*book.Book, *model) {
	t.Helper()
	b, err := book.New(voters, first)
	if err != nil || b == nil {
		t.Fatalf("%d voters, %v: %v, %v", voters, first, b, err)
	}
	return b, modelOf(voters, first)
}

// proposes puts a Propose of a right plan to a book and its model, and holds what it answers against it.
func proposes(t *testing.T, b *book.Book, m *model, ballot int, p plan.Plan, asked []int) error {
	t.Helper()
	return puts(t, b, m, true, ballot, p, asked)
}

// puts puts a Propose to a book and its model, and holds what it answers against it.
func puts(t *testing.T, b *book.Book, m *model, right bool, ballot int, p plan.Plan, asked []int) error {
	t.Helper()
	want := m.propose(right, ballot, p, asked)
	got, err := b.Propose(ballot, p, asked)
	if err != want {
		t.Fatalf("Propose(%d, %v, %v) answers %v, %v, not %v", ballot, p, asked, got, err, want)
	}
	if err != nil && !none(got) || err == nil && !plan.Same(got, p) {
		t.Fatalf("Propose(%d, %v, %v) answers %v, %v", ballot, p, asked, got, err)
	}
	return err
}

// holds holds all that a book tells against its model.
func holds(t *testing.T, b *book.Book, m *model) {
	t.Helper()
	if got, want := b.Up(), m.count(); got != want {
		t.Fatalf("Up is %d, not %d", got, want)
	}
	if got, want := b.Known(), len(m.plans); got != want {
		t.Fatalf("Known is %d, not %d", got, want)
	}
	if got, want := b.Latest(), m.plans[len(m.plans)-1]; !plan.Same(got, want) {
		t.Fatalf("Latest is %v, not %v", got, want)
	}
	first := m.plans[0].Epoch
	for i, want := range m.plans {
		if got, err := b.At(first + i); err != nil || !plan.Same(got, want) {
			t.Fatalf("At(%d) is %v, %v, not %v", first+i, got, err, want)
		}
	}
	for _, epoch := range []int{first - 2, first - 1, m.next(), m.next() + 1} {
		if got, err := b.At(epoch); err != api.ErrEpoch || !none(got) {
			t.Fatalf("At(%d) is %v, %v", epoch, got, err)
		}
	}
}

// rises holds the epochs of the plans that are known against P12.2, by what the book tells alone.
func rises(t *testing.T, b *book.Book) {
	t.Helper()
	latest, known := b.Latest().Epoch, b.Known()
	for epoch := latest - known - 1; epoch <= latest+2; epoch++ {
		is := epoch > latest-known && epoch <= latest
		p, err := b.At(epoch)
		if is && (err != nil || p.Epoch != epoch || !plan.Right(p)) || !is && err != api.ErrEpoch {
			t.Fatalf("%d known up to %d: At(%d) is %v, %v", known, latest, epoch, p, err)
		}
	}
}
