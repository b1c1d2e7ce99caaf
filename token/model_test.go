package token_test

import (
	"math"
	"slices"
	"testing"

	"tidewater/api"
	"tidewater/token"
)

// odd is numbers that are wrong wherever the document names a bound.
func odd() []int {
	return []int{math.MinInt, math.MinInt + 1, -1 << 32, -1 << 31, -2, -1, 1<<30 + 1, 1 << 31, 1 << 32, 1<<32 + 1, 1 << 62, math.MaxInt - 1, math.MaxInt}
}

// back is what is told of a stream.
func back(stream int, addresses ...int) api.Back {
	return api.Back{Stream: stream, Addresses: addresses}
}

// twin is backs that share nothing with others.
func twin(backs []api.Back) []api.Back {
	var list []api.Back
	for _, b := range backs {
		list = append(list, back(b.Stream, append([]int{}, b.Addresses...)...))
	}
	return list
}

// alike tells whether backs are the same, nil and empty lists being one.
func alike(a, b []api.Back) bool {
	return slices.EqualFunc(a, b, func(a, b api.Back) bool {
		return a.Stream == b.Stream && slices.Equal(a.Addresses, b.Addresses)
	})
}

// spoil changes all numbers of backs where they stand.
func spoil(backs []api.Back) {
	for i, b := range backs {
		for j := range b.Addresses {
			b.Addresses[j] = -99
		}
		backs[i] = back(-98, -97)
	}
}

// lists is all lists of up to so many of some numbers.
func lists(most int, of ...int) [][]int {
	all := [][]int{nil}
	for at := 0; len(all[at]) < most; at++ {
		for _, n := range of {
			all = append(all, append(slices.Clone(all[at]), n))
		}
	}
	return all
}

// formed is all lists of streams that may be taken: 13 of one, 78 of two, 286 of three.
func formed() [][]int {
	var all [][]int
	for a := range 13 {
		all = append(all, []int{a})
		for b := a + 1; b < 13; b++ {
			all = append(all, []int{a, b})
			for c := b + 1; c < 13; c++ {
				all = append(all, []int{a, b, c})
			}
		}
	}
	return all
}

// isFormed tells whether a list is one of those that may be taken.
func isFormed(streams []int) bool {
	return slices.ContainsFunc(formed(), func(list []int) bool { return slices.Equal(list, streams) })
}

// A model is what the words make of a sequencer: what it was at first, and for which streams each address was told since.
type model struct {
	epoch, first int
	backs        []api.Back
	told         [][]int
}

// next is what Next answers.
func (m *model) next() int { return m.first + len(m.told) }

// newest is what Newest answers.
func (m *model) newest(stream int) []int {
	var all []int
	for _, b := range m.backs {
		if b.Stream == stream {
			all = append(all, b.Addresses...)
		}
	}
	slices.Reverse(all)
	for i, streams := range m.told {
		if slices.Contains(streams, stream) {
			all = append(all, m.first+i)
		}
	}
	slices.Reverse(all)
	return all[:min(len(all), 4)]
}

// take is what Take answers of streams of which the caller knows whether they are right.
func (m *model) take(right bool, epoch int, streams []int) (int, []api.Back, error) {
	if epoch != m.epoch {
		return 0, nil, api.ErrSealed
	}
	if !right {
		return 0, nil, api.ErrForm
	}
	at := m.next()
	if at >= 4096 {
		return 0, nil, api.ErrFull
	}
	var backs []api.Back
	for _, stream := range streams {
		backs = append(backs, back(stream, m.newest(stream)...))
	}
	m.told = append(m.told, slices.Clone(streams))
	return at, backs, nil
}

// copy is a model that is apart.
func (m *model) copy() *model {
	return &model{epoch: m.epoch, first: m.first, backs: twin(m.backs), told: append([][]int{}, m.told...)}
}

// made is a sequencer, and its model.
func made(t *testing.T, epoch, next int, backs ...api.Back) (*token.Sequencer, *model) {
	t.Helper()
	s, err := token.New(epoch, next, backs)
	if err != nil || s == nil {
		t.Fatalf("New(%d, %d, %v): %v, %v", epoch, next, backs, s, err)
	}
	return s, &model{epoch: epoch, first: next, backs: twin(backs)}
}

// takes puts a Take of right streams to a sequencer and its model, and holds what it answers against it.
func takes(t *testing.T, s *token.Sequencer, m *model, epoch int, streams ...int) error {
	t.Helper()
	return puts(t, s, m, true, epoch, streams)
}

// puts puts a Take to a sequencer and its model, and holds what it answers against it.
func puts(t *testing.T, s *token.Sequencer, m *model, right bool, epoch int, streams []int) error {
	t.Helper()
	at, backs, err := m.take(right, epoch, streams)
	gotAt, gotBacks, gotErr := s.Take(epoch, streams)
	if gotErr != err || gotAt != at || !alike(gotBacks, backs) {
		t.Fatalf("Take(%d, %v) is %d, %v, %v, not %d, %v, %v", epoch, streams, gotAt, gotBacks, gotErr, at, backs, err)
	}
	return gotErr
}

// holds holds all that a sequencer tells against its model.
func holds(t *testing.T, s *token.Sequencer, m *model) {
	t.Helper()
	if got := s.Epoch(); got != m.epoch {
		t.Fatalf("Epoch is %d, not %d", got, m.epoch)
	}
	if got, err := s.Next(m.epoch); err != nil || got != m.next() {
		t.Fatalf("Next is %d, %v, not %d", got, err, m.next())
	}
	var all []api.Back
	for stream := range 13 {
		want := m.newest(stream)
		if got, err := s.Newest(m.epoch, stream); err != nil || !slices.Equal(got, want) {
			t.Fatalf("Newest of %d is %v, %v, not %v", stream, got, err, want)
		}
		if len(want) > 0 {
			all = append(all, back(stream, want...))
		}
	}
	if got := s.Backs(); !alike(got, all) {
		t.Fatalf("Backs is %v, not %v", got, all)
	}
}

// refuses holds what a sequencer answers by wrong epochs, and of streams that there aren't.
func refuses(t *testing.T, s *token.Sequencer, m *model) {
	t.Helper()
	for _, epoch := range append(odd(), 0, 1, m.epoch-1, m.epoch+1, 1<<30) {
		if epoch == m.epoch {
			continue
		}
		if got, err := s.Next(epoch); got != 0 || err != api.ErrSealed {
			t.Fatalf("Next(%d) is %d, %v", epoch, got, err)
		}
		for _, stream := range []int{0, 1, 12, 13, -1} {
			if got, err := s.Newest(epoch, stream); len(got) != 0 || err != api.ErrSealed {
				t.Fatalf("Newest(%d, %d) is %v, %v", epoch, stream, got, err)
			}
		}
		for _, streams := range [][]int{{1}, {0, 3, 12}, nil, {13}} {
			if at, backs, err := s.Take(epoch, streams); at != 0 || len(backs) != 0 || err != api.ErrSealed {
				t.Fatalf("Take(%d, %v) is %d, %v, %v", epoch, streams, at, backs, err)
			}
		}
	}
	for _, stream := range append(odd(), 13, 14, 64) {
		if got, err := s.Newest(m.epoch, stream); len(got) != 0 || err != api.ErrRange {
			t.Fatalf("Newest of %d is %v, %v", stream, got, err)
		}
	}
}
