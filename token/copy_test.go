package token_test

import (
	"math/rand"
	"testing"

	"tidewater/token"
)

// P13.1: Copy: one that is apart.

func TestCopyTellsTheSame(t *testing.T) {
	for _, next := range []int{0, 6, 4090, 4096} {
		for _, backs := range rights(next) {
			s, m := made(t, 4, next, backs...)
			for n := range 8 {
				c := s.Copy()
				holds(t, c, m)
				refuses(t, c, m)
				holds(t, c.Copy(), m)
				takes(t, s, m, 4, n%4, 4+n%3, 12)
			}
		}
	}
}

func TestCopyIsApart(t *testing.T) {
	for _, first := range []bool{false, true} {
		for count := range 7 {
			s, m := made(t, 4, 20, back(1, 19), back(2, 18, 17, 16, 3), back(3))
			c, n := s.Copy(), m.copy()
			if first {
				s, m, c, n = c, n, s, m
			}
			for range count {
				takes(t, s, m, 4, 1, 2, 3)
				takes(t, s, m, 4, 12)
			}
			holds(t, s, m)
			holds(t, c, n)
			takes(t, c, n, 4, 0, 2, 12)
			holds(t, s, m)
			holds(t, c, n)
		}
	}
}

func TestCopyOfAFullLog(t *testing.T) {
	s, m := made(t, 4, 4095)
	c, n := s.Copy(), m.copy()
	takes(t, s, m, 4, 1)
	d, o := s.Copy(), m.copy()
	for range 2 {
		takes(t, s, m, 4, 1)
		takes(t, c, n, 4, 2)
		takes(t, d, o, 4, 3)
	}
	holds(t, s, m)
	holds(t, c, n)
	holds(t, d, o)
}

// P13.1 and P13.2: every call, in every order, with copies of copies that go their own ways.

func TestThrownRowsWithCopies(t *testing.T) {
	r := rand.New(rand.NewSource(15))
	right := formed()
	for range 150 {
		next := r.Intn(4097)
		s, m := made(t, r.Intn(4), next, throwsBacks(r, next)...)
		all, models := []*token.Sequencer{s}, []*model{m}
		for range 60 {
			at := r.Intn(len(all))
			if r.Intn(8) == 0 {
				c, d := all[at].Copy(), models[at].copy()
				if len(all) < 4 {
					all, models = append(all, c), append(models, d)
				} else {
					to := r.Intn(4)
					all[to], models[to] = c, d
				}
			} else {
				does(t, all[at], models[at], throws(r, right))
			}
			for i, x := range all {
				holds(t, x, models[i])
			}
		}
	}
}
