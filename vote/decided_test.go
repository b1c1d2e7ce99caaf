package vote_test

import (
	"math/rand"
	"strconv"
	"testing"

	"tidewater/vote"
)

// P11.2: in one matter no two texts are decided.

// A room is voters, proposers that each use a ballot of their own, and what the voters have accepted by each.
type room struct {
	voters    []*vote.Voter
	proposers []*vote.Proposer
	ballots   []int
	asked     []string            // what each proposer has asked for, once it has
	accepted  []map[int]string    // by proposer: which voters have accepted what
	told      []map[int]vote.Told // by proposer: what it has been told by Prepare
	taken     []map[int]string    // by proposer: what it has been told by Accept
	decided   map[string]bool
}

const matter = 3

func newRoom(t *testing.T, voters int, ballots []int) *room {
	t.Helper()
	r := &room{ballots: ballots, decided: map[string]bool{}, asked: make([]string, len(ballots))}
	for range voters {
		r.voters = append(r.voters, &vote.Voter{})
	}
	for i, ballot := range ballots {
		p, err := vote.New(voters, matter, ballot, string(rune('a'+i)))
		if err != nil {
			t.Fatal(err)
		}
		r.proposers, r.accepted = append(r.proposers, p), append(r.accepted, map[int]string{})
		r.told, r.taken = append(r.told, map[int]vote.Told{}), append(r.taken, map[int]string{})
	}
	return r
}

// accept puts proposer i's text to a voter, keeps whether a text is decided by that, and tells what the voter answers.
func (r *room) accept(i, voter int, text string) bool {
	yes := r.voters[voter].Accept(matter, r.ballots[i], text)
	if yes {
		r.accepted[i][voter] = text
		for _, x := range r.accepted[i] {
			count := 0
			for _, y := range r.accepted[i] {
				if x == y {
					count++
				}
			}
			if count > len(r.voters)/2 {
				r.decided[x] = true
			}
		}
	}
	return yes
}

// checks asks whether at most one text is decided, and each proposer asks for one text, and tells only what is decided.
func (r *room) checks(t *testing.T) {
	t.Helper()
	if len(r.decided) > 1 {
		t.Fatalf("decided: %v", r.decided)
	}
	for i, p := range r.proposers {
		text, is := p.Asks()
		if is && r.asked[i] == "" {
			r.asked[i] = text
		}
		if text != r.asked[i] {
			t.Fatalf("proposer %d asks for %q, then for %q", i, r.asked[i], text)
		}
		if text, is = p.Decided(); is && !r.decided[text] || !is && text != "" {
			t.Fatalf("proposer %d tells %q, %v: decided is %v", i, text, is, r.decided)
		}
	}
}

// step is one of what may be done: proposer i asks a voter for a promise, or to accept, and is told the answer, or it is lost.
func (r *room) step(n int) {
	answered, accept := n%2 == 0, n/2%2 == 0
	voter, i := n/4%len(r.voters), n/4/len(r.voters)
	text, is := r.proposers[i].Asks()
	if !accept {
		told := r.voters[voter].Prepare(matter, r.ballots[i])
		if _, has := r.told[i][voter]; answered && !has {
			r.proposers[i].Promise(voter, told)
			r.told[i][voter] = told
		}
	} else if is {
		yes := r.accept(i, voter, text)
		if answered && r.taken[i][voter] == "" {
			r.proposers[i].Accepted(voter, yes)
			r.taken[i][voter] = strconv.FormatBool(yes)
		}
	}
}

// shape is what all further steps hang on: what the voters have, and what the proposers have been told, till they ask for a text.
func (r *room) shape() string {
	s := ""
	for _, v := range r.voters {
		ballot, text := v.Accepted(matter)
		s += "|" + strconv.Itoa(v.Promised(matter)) + "," + strconv.Itoa(ballot) + text
	}
	for i, p := range r.proposers {
		asks, is := p.Asks()
		s += "|" + asks
		for v := range r.voters {
			if told, has := r.told[i][v]; has && !is {
				s += strconv.FormatBool(told.Yes) + strconv.Itoa(told.Ballot)
			}
			s += "," + r.accepted[i][v] + "," + r.taken[i][v]
		}
	}
	return s
}

// TestNoTwoTextsInAllOrders goes on from each room of a shape that it hasn't seen yet, by each step.
func TestNoTwoTextsInAllOrders(t *testing.T) {
	for _, k := range []struct {
		voters  int
		ballots []int
	}{{1, []int{0, 1, 2}}, {2, []int{0, 1}}, {2, []int{5, 2}}, {3, []int{1, 2}}} {
		seen := map[string]bool{}
		decided := map[string]bool{}
		paths := [][]int{nil}
		for len(paths) > 0 {
			path := paths[0]
			paths = paths[1:]
			for n := range 4 * k.voters * len(k.ballots) {
				longer := append(path[:len(path):len(path)], n)
				r := newRoom(t, k.voters, k.ballots)
				for _, step := range longer {
					r.step(step)
				}
				r.checks(t)
				for text := range r.decided {
					decided[text] = true
				}
				if shape := r.shape(); !seen[shape] {
					seen[shape] = true
					paths = append(paths, longer)
				}
			}
		}
		if len(decided) != len(k.ballots) {
			t.Errorf("%d voters: only %v were ever decided", k.voters, decided)
		}
	}
}

// A message is on its way between a proposer and a voter.
type message struct {
	kind, proposer, voter int
	told                  vote.Told
	yes                   bool
	text                  string
}

// arrive is what a message does where it comes to; an answer that goes back is a message, too.
func (r *room) arrive(m message) (message, bool) {
	switch m.kind {
	case 0:
		m.told = r.voters[m.voter].Prepare(matter, r.ballots[m.proposer])
	case 1:
		r.proposers[m.proposer].Promise(m.voter, m.told)
		return m, false
	case 2:
		m.yes = r.accept(m.proposer, m.voter, m.text)
	case 3:
		r.proposers[m.proposer].Accepted(m.voter, m.yes)
		return m, false
	}
	m.kind++
	return m, true
}

// TestNoTwoTextsOfThrownMessages lets messages come late, twice, out of order, or never.
func TestNoTwoTextsOfThrownMessages(t *testing.T) {
	rnd := rand.New(rand.NewSource(13))
	ends := map[int]int{}
	for range 6000 {
		voters := rnd.Intn(5) + 1
		r := newRoom(t, voters, rnd.Perm(2+rnd.Intn(3)))
		var way []message
		for range 150 {
			i, v := rnd.Intn(len(r.proposers)), rnd.Intn(voters)
			text, is := r.proposers[i].Asks()
			switch dice := rnd.Intn(8); {
			case dice == 0:
				way = append(way, message{kind: 0, proposer: i, voter: v})
			case dice == 1 && is:
				way = append(way, message{kind: 2, proposer: i, voter: v, text: text})
			case dice > 1 && len(way) > 0:
				at := rnd.Intn(len(way))
				if back, goes := r.arrive(way[at]); goes {
					way = append(way, back)
				}
				if rnd.Intn(3) > 0 {
					way = append(way[:at:at], way[at+1:]...)
				}
			}
			r.checks(t)
		}
		ends[len(r.decided)]++
	}
	if ends[1] < 3000 || ends[0] < 10 {
		t.Errorf("how many were decided: %v", ends)
	}
}
