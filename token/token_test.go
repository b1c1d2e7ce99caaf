package token_test

import (
	"math/rand"
	"slices"
	"testing"

	"tidewater/api"
	"tidewater/token"
)

// rights is backs of several shapes that may be those of a sequencer with that next address.
func rights(next int) [][]api.Back {
	all := [][]api.Back{nil, {}, {back(0)}, {back(0), back(1), back(12)}}
	if next < 6 {
		return all
	}
	var full []api.Back
	for stream := range 13 {
		full = append(full, back(stream, next-1, next-2, next-3, stream%(next-3)))
	}
	return append(all,
		[]api.Back{back(0, 0)},
		[]api.Back{back(12, next-1)},
		[]api.Back{back(1, next-1, 0), back(2)},
		[]api.Back{back(0), back(3, next-1, next-2, 1, 0), back(4, next-1), back(11, 2, 1, 0)},
		full,
	)
}

// wrongs is backs that no sequencer with that next address has, by each word of what is right.
func wrongs(next int) [][]api.Back {
	all := [][]api.Back{
		{back(-1)},
		{back(13)},
		{back(0), back(13)},
		{back(-1), back(0)},
		{back(1), back(1)},
		{back(2), back(1)},
		{back(0), back(2), back(1), back(3)},
		{back(0), back(0), back(1)},
		{back(12), back(0)},
		{back(1, next)},
		{back(1, next+1)},
		{back(1, -1)},
		{back(1), back(2, next)},
		{back(1, next), back(2)},
	}
	for _, n := range odd() {
		all = append(all, []api.Back{back(n)}, []api.Back{back(3), back(n)}, []api.Back{back(3, n)})
	}
	if next < 6 {
		return all
	}
	return append(all,
		[]api.Back{back(1, 0, 0)},
		[]api.Back{back(1, 0, 1)},
		[]api.Back{back(1, 4, 2, 2)},
		[]api.Back{back(1, 4, 2, 3, 1)},
		[]api.Back{back(1, 4, 3, 2, 4)},
		[]api.Back{back(1, 4, 3, 2, -1)},
		[]api.Back{back(1, 4, 3, 2, 1, 0)},
		[]api.Back{back(1, next, 3, 2, 1)},
		[]api.Back{back(1, 2), back(1, 1)},
		[]api.Back{back(2, 2), back(1, 1)},
		[]api.Back{back(0, 3), back(12, 5, 4), back(13, 2)},
	)
}

// P13.1: New.

func TestNew(t *testing.T) {
	for _, epoch := range []int{0, 1, 2, 77, 1<<30 - 1, 1 << 30} {
		for _, next := range []int{0, 1, 2, 5, 6, 7, 100, 4094, 4095, 4096} {
			for _, backs := range rights(next) {
				s, m := made(t, epoch, next, backs...)
				holds(t, s, m)
				refuses(t, s, m)
				holds(t, s, m)
			}
		}
	}
}

func TestNewOfWrongEpochs(t *testing.T) {
	for _, epoch := range odd() {
		for _, next := range []int{0, 9, 4096, -1, 4097} {
			for _, backs := range append(rights(next), wrongs(next)...) {
				if s, err := token.New(epoch, next, backs); s != nil || err != api.ErrEpoch {
					t.Errorf("New(%d, %d, %v): %v, %v", epoch, next, backs, s, err)
				}
			}
		}
	}
}

func TestNewOfWrongNexts(t *testing.T) {
	for _, epoch := range []int{0, 5, 1 << 30} {
		for _, next := range append(odd(), 4097, 4098, 1<<30) {
			for _, backs := range append(rights(9), wrongs(9)...) {
				if s, err := token.New(epoch, next, backs); s != nil || err != api.ErrRange {
					t.Errorf("New(%d, %d, %v): %v, %v", epoch, next, backs, s, err)
				}
			}
		}
	}
}

func TestNewOfWrongBacks(t *testing.T) {
	for _, epoch := range []int{0, 5, 1 << 30} {
		for _, next := range []int{0, 1, 6, 9, 4096} {
			for _, backs := range wrongs(next) {
				if s, err := token.New(epoch, next, backs); s != nil || err != api.ErrForm {
					t.Errorf("New(%d, %d, %v): %v, %v", epoch, next, backs, s, err)
				}
			}
		}
	}
}

// TestNewOfAllLists knows a right list of addresses by the set that it is: that, the greatest one first, is the list.
func TestNewOfAllLists(t *testing.T) {
	count := 0
	for next := range 7 {
		for _, list := range lists(5, -1, 0, 1, 2, 3, 4, 5, 6) {
			set := map[int]bool{}
			for _, a := range list {
				set[a] = true
			}
			var want []int
			for a := next - 1; a >= 0; a-- {
				if set[a] {
					want = append(want, a)
				}
			}
			if slices.Equal(list, want) && len(list) < 5 {
				count++
				s, m := made(t, 3, next, back(7, list...))
				holds(t, s, m)
			} else if s, err := token.New(3, next, []api.Back{back(7, list...)}); s != nil || err != api.ErrForm {
				t.Fatalf("New(3, %d, %v): %v, %v", next, list, s, err)
			}
		}
	}
	// Of so many addresses, all sets of up to four.
	if want := 1 + 2 + 4 + 8 + 16 + 31 + 57; count != want {
		t.Errorf("%d lists are right, not %d", count, want)
	}
}

func TestNewOfAllStreams(t *testing.T) {
	for _, streams := range lists(4, -1, 0, 1, 6, 11, 12, 13) {
		var backs []api.Back
		is := true
		for i, stream := range streams {
			backs = append(backs, back(stream, 8, i))
			is = is && stream >= 0 && stream <= 12 && !slices.ContainsFunc(streams[:i], func(ahead int) bool { return ahead >= stream })
		}
		if is {
			s, m := made(t, 3, 9, backs...)
			holds(t, s, m)
		} else if s, err := token.New(3, 9, backs); s != nil || err != api.ErrForm {
			t.Fatalf("New(3, 9, %v): %v, %v", backs, s, err)
		}
	}
}

// P13.1: Take: whose answers are told by hand.

func TestTakeByHand(t *testing.T) {
	s, err := token.New(0, 0, nil)
	if err != nil {
		t.Fatal(err)
	}
	for _, k := range []struct {
		streams []int
		at      int
		backs   []api.Back
	}{
		{[]int{1}, 0, []api.Back{back(1)}},
		{[]int{1}, 1, []api.Back{back(1, 0)}},
		{[]int{0, 2}, 2, []api.Back{back(0), back(2)}},
		{[]int{0, 1, 2}, 3, []api.Back{back(0, 2), back(1, 1, 0), back(2, 2)}},
		{[]int{1}, 4, []api.Back{back(1, 3, 1, 0)}},
		{[]int{1, 12}, 5, []api.Back{back(1, 4, 3, 1, 0), back(12)}},
		{[]int{1}, 6, []api.Back{back(1, 5, 4, 3, 1)}},
		{[]int{2, 12}, 7, []api.Back{back(2, 3, 2), back(12, 5)}},
		{[]int{1, 2, 12}, 8, []api.Back{back(1, 6, 5, 4, 3), back(2, 7, 3, 2), back(12, 7, 5)}},
	} {
		at, backs, err := s.Take(0, k.streams)
		if at != k.at || !alike(backs, k.backs) || err != nil {
			t.Errorf("Take of %v is %d, %v, %v, not %d, %v", k.streams, at, backs, err, k.at, k.backs)
		}
	}
	want := []api.Back{back(0, 3, 2), back(1, 8, 6, 5, 4), back(2, 8, 7, 3, 2), back(12, 8, 7, 5)}
	if backs := s.Backs(); !alike(backs, want) {
		t.Errorf("Backs is %v", backs)
	}
}

func TestTakeOfAllStreams(t *testing.T) {
	for _, next := range []int{0, 6, 4095} {
		for _, backs := range rights(next) {
			for _, streams := range formed() {
				s, m := made(t, 2, next, backs...)
				takes(t, s, m, 2, streams...)
				holds(t, s, m)
			}
		}
	}
}

func TestTakeOfAllLists(t *testing.T) {
	all := append(lists(3, -1, 0, 1, 2, 3, 4, 5, 6, 7, 8, 9, 10, 11, 12, 13), lists(5, 0, 1, 6, 12, 13)...)
	s, m := made(t, 2, 0)
	count := 0
	for _, streams := range all {
		if puts(t, s, m, isFormed(streams), 2, streams) == nil {
			count++
		}
	}
	holds(t, s, m)
	if count < 377 {
		t.Errorf("only %d lists were taken", count)
	}
}

func TestTakeOfWrongStreams(t *testing.T) {
	wrong := [][]int{nil, {}, {0, 1, 2, 3}, {0, 1, 2, 12, 13}, {0, 0}, {1, 0}, {1, 1, 2}, {0, 2, 2}, {0, 3, 2}, {2, 1, 3}, {12, 13}, {-1, 0}}
	for _, n := range odd() {
		wrong = append(wrong, []int{n}, []int{n, 1}, []int{1, n}, []int{1, 2, n}, []int{1, n, 2})
	}
	// Also where there is no address: the streams are asked first.
	for _, next := range []int{0, 9, 4096} {
		for _, streams := range wrong {
			s, m := made(t, 2, next, back(0), back(1))
			if err := puts(t, s, m, false, 2, streams); err != api.ErrForm {
				t.Errorf("Take of %v: %v", streams, err)
			}
			holds(t, s, m)
		}
	}
}

func TestTakeOfLongLists(t *testing.T) {
	s, m := made(t, 2, 5)
	for _, size := range []int{4, 13, 256, 259, 1<<16 + 1} {
		if err := puts(t, s, m, false, 2, make([]int, size)); err != api.ErrForm {
			t.Errorf("%d streams: %v", size, err)
		}
	}
	holds(t, s, m)
}

func TestTakeOfAFullLog(t *testing.T) {
	for _, first := range []int{4093, 4094, 4095, 4096} {
		s, m := made(t, 2, first, back(0, 7, 3), back(4, first-1))
		for at := first; at < 4096; at++ {
			if err := takes(t, s, m, 2, at%3, 4, 12); err != nil {
				t.Errorf("address %d: %v", at, err)
			}
		}
		for range 3 {
			for _, streams := range [][]int{{4}, {0, 1, 2}, {12}} {
				if err := takes(t, s, m, 2, streams...); err != api.ErrFull {
					t.Errorf("a full log, from %d on: %v", first, err)
				}
				holds(t, s, m)
				refuses(t, s, m)
			}
		}
		if next, err := s.Next(2); next != 4096 || err != nil {
			t.Errorf("Next is %d, %v", next, err)
		}
	}
}

// P13.1: the order of Take's errors, and of Newest's.

func TestErrorsInOrder(t *testing.T) {
	for _, k := range []struct {
		next, epoch int
		streams     []int
		want        error
	}{
		{4096, 4, []int{1, 1}, api.ErrSealed},
		{4096, 4, []int{1}, api.ErrSealed},
		{9, 6, nil, api.ErrSealed},
		{9, 6, []int{1}, api.ErrSealed},
		{4096, 5, []int{1, 1}, api.ErrForm},
		{4096, 5, []int{0, 1, 2, 3}, api.ErrForm},
		{4096, 5, []int{13}, api.ErrForm},
		{9, 5, []int{13}, api.ErrForm},
		{4096, 5, []int{12}, api.ErrFull},
		{4095, 5, []int{12}, nil},
	} {
		s, _ := made(t, 5, k.next)
		if _, _, err := s.Take(k.epoch, k.streams); err != k.want {
			t.Errorf("next %d: Take(%d, %v): %v", k.next, k.epoch, k.streams, err)
		}
	}
	s, _ := made(t, 5, 9)
	for _, epoch := range []int{0, 4, 6} {
		if _, err := s.Newest(epoch, 13); err != api.ErrSealed {
			t.Errorf("Newest(%d, 13): %v", epoch, err)
		}
	}
}

// P13.1: nothing is shared.

func TestNothingHandedInIsKeptOrChanged(t *testing.T) {
	backs := []api.Back{back(0), back(1, 8, 7, 5, 2), back(4, 3)}
	was := twin(backs)
	streams := []int{0, 1, 4}
	s, m := made(t, 1, 9, backs...)
	for range 6 {
		takes(t, s, m, 1, streams...)
	}
	if !alike(backs, was) || !slices.Equal(streams, []int{0, 1, 4}) {
		t.Errorf("changed: %v, %v", backs, streams)
	}
	spoil(backs)
	copy(streams, []int{-5, -6, -7})
	holds(t, s, m)

	backs = twin(was)
	s, m = made(t, 1, 9, backs...)
	spoil(backs)
	holds(t, s, m)
	takes(t, s, m, 1, 0, 1, 4)
}

func TestAnswersAreTheCallersOwn(t *testing.T) {
	for count := range 6 {
		s, m := made(t, 1, 9, back(2, 8, 6), back(3, 8, 7, 5, 4), back(4))
		for range count {
			takes(t, s, m, 1, 2, 3, 5)
		}
		_, backs, err := s.Take(1, []int{2, 3, 4})
		m.take(true, 1, []int{2, 3, 4})
		if err != nil {
			t.Fatal(err)
		}
		appends(t, backs)
		spoil(backs)
		holds(t, s, m)
		all := s.Backs()
		appends(t, all)
		spoil(all)
		holds(t, s, m)
		for stream := range 13 {
			list, err := s.Newest(1, stream)
			if err != nil {
				t.Fatal(err)
			}
			other, _ := s.Newest(1, stream)
			if list = append(list, -3)[:len(list)]; !slices.Equal(list, other) {
				t.Errorf("Newest of %d is %v, then %v", stream, list, other)
			}
			spoil([]api.Back{back(stream, list...)})
			holds(t, s, m)
		}
		takes(t, s, m, 1, 2, 3, 5)
	}
}

// appends puts a number behind each list of backs: none of the others may change by that.
func appends(t *testing.T, backs []api.Back) {
	t.Helper()
	want := twin(backs)
	for i := range backs {
		backs[i].Addresses = append(backs[i].Addresses, -4)
		want[i].Addresses = append(want[i].Addresses, -4)
	}
	if !alike(backs, want) {
		t.Errorf("lists share room: %v, not %v", backs, want)
	}
}

// What was answered stays as it was, whatever is taken later.
func TestAnswersStay(t *testing.T) {
	s, m := made(t, 1, 9, back(2, 8, 6), back(3, 8, 7, 5, 4))
	_, first, _ := s.Take(1, []int{2, 3})
	m.take(true, 1, []int{2, 3})
	all := s.Backs()
	newest, _ := s.Newest(1, 3)
	for range 9 {
		takes(t, s, m, 1, 2, 3)
	}
	if !alike(first, []api.Back{back(2, 8, 6), back(3, 8, 7, 5, 4)}) {
		t.Errorf("what Take answered is %v", first)
	}
	if !alike(all, []api.Back{back(2, 9, 8, 6), back(3, 9, 8, 7, 5)}) || !slices.Equal(newest, []int{9, 8, 7, 5}) {
		t.Errorf("what was answered is %v, %v", all, newest)
	}
}

// TestZeroSequencer asks only that no call panics: the chapter doesn't say what a sequencer that New didn't make answers.
func TestZeroSequencer(t *testing.T) {
	for _, n := range append(odd(), 0, 1, 12) {
		var s token.Sequencer
		s.Take(n, []int{n})
		s.Take(0, []int{n})
		s.Take(0, []int{0, 1, 12})
		s.Next(n)
		s.Newest(n, n)
		s.Newest(0, n)
		s.Epoch()
		s.Backs()
		s.Copy().Copy().Take(0, nil)
	}
}

// P13.1 and P13.2: every call, in every order.

// A call is a Take, by an epoch that is so much above the sequencer's own one.
type call struct {
	above   int
	right   bool
	streams []int
}

// does puts a call to a sequencer and its model.
func does(t *testing.T, s *token.Sequencer, m *model, c call) {
	t.Helper()
	puts(t, s, m, c.right, m.epoch+c.above, c.streams)
}

func TestAllShortRows(t *testing.T) {
	calls := []call{
		{0, true, []int{0}}, {0, true, []int{1}}, {0, true, []int{12}}, {0, true, []int{0, 1}}, {0, true, []int{1, 12}}, {0, true, []int{0, 1, 12}},
		{0, false, []int{1, 0}}, {1, true, []int{0, 1}}, {-1, true, []int{1}},
	}
	for _, backs := range [][]api.Back{nil, {back(0, 4090, 2), back(1, 4091, 4090, 5, 0), back(2, 1)}} {
		for _, next := range []int{4092, 4093, 4095} {
			var longer func(row []int)
			longer = func(row []int) {
				if len(row) < 4 {
					for n := range calls {
						longer(append(row[:len(row):len(row)], n))
					}
					return
				}
				s, m := made(t, 7, next, backs...)
				for _, n := range row {
					does(t, s, m, calls[n])
				}
				holds(t, s, m)
			}
			longer(nil)
		}
	}
}

// throws is a call that chance makes.
func throws(r *rand.Rand, right [][]int) call {
	c := call{right: true, streams: right[r.Intn(len(right))]}
	switch r.Intn(20) {
	case 0:
		c.above = r.Intn(5) - 2
	case 1:
		c.streams = append(slices.Clone(c.streams), c.streams[0])
		c.right = false
	}
	return c
}

// throwsBacks is backs that chance makes.
func throwsBacks(r *rand.Rand, next int) []api.Back {
	var backs []api.Back
	for stream := range 13 {
		if r.Intn(2) == 0 {
			b := back(stream)
			for a := next - 1; a >= 0 && len(b.Addresses) < r.Intn(6); a -= 1 + r.Intn(3) {
				b.Addresses = append(b.Addresses, a)
			}
			b.Addresses = b.Addresses[:min(4, len(b.Addresses))]
			backs = append(backs, b)
		}
	}
	return backs
}

func TestThrownRows(t *testing.T) {
	r := rand.New(rand.NewSource(13))
	right := formed()
	for range 400 {
		next := []int{0, 1, r.Intn(4097), 4096 - r.Intn(40), 3000}[r.Intn(5)]
		s, m := made(t, r.Intn(3), next, throwsBacks(r, next)...)
		for range 60 {
			does(t, s, m, throws(r, right))
			holds(t, s, m)
		}
	}
}

// P13.2: addresses are told one behind the other, each once.

func TestEachAddressOnce(t *testing.T) {
	right := formed()
	for _, first := range []int{0, 1, 2048, 4000} {
		s, _ := made(t, 3, first)
		seen := map[int]bool{}
		for n := 0; ; n++ {
			// What is refused takes no address.
			s.Take(2, []int{1})
			s.Take(4, []int{1})
			s.Take(3, []int{2, 1})
			s.Newest(3, 1)
			s.Backs()
			next, _ := s.Next(3)
			at, _, err := s.Take(3, right[n%len(right)])
			if err == api.ErrFull {
				break
			}
			if err != nil || at != first+n || at != next || seen[at] {
				t.Fatalf("Take number %d, from %d on, is %d, %v: Next was %d", n, first, at, err, next)
			}
			seen[at] = true
		}
		if len(seen) != 4096-first {
			t.Errorf("from %d on: %d addresses", first, len(seen))
		}
	}
}

// TestWholeLog takes all addresses there are: each stream's newest ones are told right at each.
func TestWholeLog(t *testing.T) {
	s, m := made(t, 0, 0)
	r := rand.New(rand.NewSource(14))
	right := formed()
	held := map[int][]int{}
	for at := range 4096 {
		streams := right[r.Intn(len(right))]
		got, backs, err := s.Take(0, streams)
		if got != at || err != nil || len(backs) != len(streams) {
			t.Fatalf("address %d is %d, %v, %v", at, got, backs, err)
		}
		for i, stream := range streams {
			if backs[i].Stream != stream || !slices.Equal(backs[i].Addresses, held[stream]) {
				t.Fatalf("address %d: of stream %d %v, not %v", at, stream, backs[i], held[stream])
			}
			held[stream] = append([]int{at}, held[stream]...)
			held[stream] = held[stream][:min(4, len(held[stream]))]
		}
		m.take(true, 0, streams)
	}
	holds(t, s, m)
	if err := takes(t, s, m, 0, 1); err != api.ErrFull {
		t.Errorf("behind all of them: %v", err)
	}
	holds(t, s, m)
}
