package book_test

import (
	"math/rand"
	"testing"

	"tidewater/api"
	"tidewater/book"
)

// P12.1: Copy: one that is apart.

func TestCopyTellsTheSame(t *testing.T) {
	for voters := 1; voters <= 5; voters++ {
		b, m := made(t, voters, shaped(3, 2))
		for epoch := 4; epoch <= 9; epoch++ {
			b.Set(epoch%voters, false)
			m.set(epoch%voters, false)
			holds(t, b.Copy(), m)
			b.Set(epoch%voters, true)
			m.set(epoch%voters, true)
			proposes(t, b, m, epoch, shaped(epoch, epoch), []int{0, 1, 2, 3, 4})
			c := b.Copy()
			holds(t, c, m)
			holds(t, c.Copy(), m)
			rises(t, c)
		}
	}
}

func TestCopyHasThePromises(t *testing.T) {
	for _, ballot := range []int{0, 4, 5, 6} {
		b, m := made(t, 3, shaped(0, 0))
		if err := proposes(t, b, m, 5, shaped(1, 1), []int{0}); err != api.ErrDown {
			t.Errorf("one of three: %v", err)
		}
		for range 3 {
			b = b.Copy()
		}
		var want error
		if ballot <= 5 {
			want = api.ErrDown
		}
		if err := proposes(t, b, m, ballot, shaped(1, 2), []int{0, 1}); err != want {
			t.Errorf("ballot %d: %v", ballot, err)
		}
	}
}

func TestCopyIsApart(t *testing.T) {
	for _, k := range []struct {
		name string
		do   func(t *testing.T, b *book.Book, m *model)
	}{
		{"Set", func(t *testing.T, b *book.Book, m *model) {
			b.Set(1, false)
			m.set(1, false)
		}},
		{"a promise of a voter that had promised", func(t *testing.T, b *book.Book, m *model) {
			proposes(t, b, m, 9, shaped(2, 3), []int{0})
		}},
		{"a promise of a voter that hadn't", func(t *testing.T, b *book.Book, m *model) {
			proposes(t, b, m, 9, shaped(2, 3), []int{1})
		}},
		{"a plan decided", func(t *testing.T, b *book.Book, m *model) {
			proposes(t, b, m, 9, shaped(2, 3), []int{1, 2})
		}},
		{"plans decided", func(t *testing.T, b *book.Book, m *model) {
			for epoch := 2; epoch < 9; epoch++ {
				proposes(t, b, m, 9, shaped(epoch, epoch), []int{0, 1, 2})
			}
		}},
	} {
		for _, first := range []bool{false, true} {
			b, m := made(t, 3, shaped(0, 0))
			proposes(t, b, m, 1, shaped(1, 2), []int{0, 1})
			proposes(t, b, m, 5, shaped(2, 1), []int{0})
			c, n := b.Copy(), m.copy()
			if first {
				b, m, c, n = c, n, b, m
			}
			k.do(t, b, m)
			holds(t, b, m)
			holds(t, c, n)
			// What the other one's voters have promised shows by a ballot that is between.
			if err := proposes(t, c, n, 6, shaped(2, 6), []int{0, 1}); err != nil {
				t.Errorf("%s: %v", k.name, err)
			}
			holds(t, b, m)
			holds(t, c, n)
		}
	}
}

func TestCopySharesNoPlan(t *testing.T) {
	b, m := made(t, 3, shaped(0, 6))
	proposes(t, b, m, 1, shaped(1, 7), []int{0, 1})
	c := b.Copy()
	for _, x := range []*book.Book{b, c} {
		spoil(x.Latest())
		p, err := x.At(0)
		if err != nil {
			t.Fatal(err)
		}
		spoil(p)
	}
	holds(t, b, m)
	holds(t, c, m)
}

// P12.1 and P12.2: every call, in every order, with copies of copies that go their own ways.

func TestThrownRowsWithCopies(t *testing.T) {
	r := rand.New(rand.NewSource(13))
	for n := range 400 {
		voters := n%5 + 1
		b, m := made(t, voters, shaped(n, n))
		books, models := []*book.Book{b}, []*model{m}
		for range 80 {
			at := r.Intn(len(books))
			if r.Intn(8) == 0 {
				c, d := books[at].Copy(), models[at].copy()
				if len(books) < 4 {
					books, models = append(books, c), append(models, d)
				} else {
					to := r.Intn(4)
					books[to], models[to] = c, d
				}
			} else {
				does(t, books[at], models[at], throws(r, voters), r.Intn(8))
			}
			for i, x := range books {
				holds(t, x, models[i])
			}
		}
		for _, x := range books {
			rises(t, x)
		}
	}
}
