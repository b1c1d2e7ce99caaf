package vote_test

import (
	"math"
	"math/rand"
	"testing"

	"tidewater/api"
	"tidewater/vote"
)

// P11.1: Prepare, Accept, Promised and Accepted.

// puts puts the last of asks to a voter that has been put the others, and holds all that it answers against the model.
func puts(t *testing.T, v *vote.Voter, asks []ask) {
	t.Helper()
	a := asks[len(asks)-1]
	told, yes := answersOf(asks)
	if a.accept {
		if got := v.Accept(a.matter, a.ballot, a.text); got != yes {
			t.Fatalf("%v: Accept answers %v", asks, got)
		}
	} else if got := v.Prepare(a.matter, a.ballot); got != told {
		t.Fatalf("%v: Prepare answers %v, not %v", asks, got, told)
	}
	for _, matter := range []int{a.matter, a.matter + 1, a.matter - 1, -a.matter} {
		holds(t, v, asks, matter)
	}
}

// holds holds what a voter has of a matter against the model.
func holds(t *testing.T, v *vote.Voter, asks []ask, matter int) {
	t.Helper()
	if got, want := v.Promised(matter), promisedOf(asks, matter); got != want {
		t.Fatalf("%v: Promised(%d) is %d, not %d", asks, matter, got, want)
	}
	ballot, text := v.Accepted(matter)
	if b, x := acceptedOf(asks, matter); ballot != b || text != x {
		t.Fatalf("%v: Accepted(%d) is %d, %q, not %d, %q", asks, matter, ballot, text, b, x)
	}
}

func TestVoterOfNothing(t *testing.T) {
	var v vote.Voter
	for _, matter := range append([]int{-1, 0, 1}, odd()...) {
		holds(t, &v, nil, matter)
	}
}

func TestVoterByHand(t *testing.T) {
	var v vote.Voter
	for i, k := range []struct {
		ballot int
		told   vote.Told
	}{
		{-1, vote.Told{Ballot: -1}},
		{math.MinInt, vote.Told{Ballot: -1}},
		{0, vote.Told{Yes: true, Ballot: -1}},
		{0, vote.Told{Ballot: -1}},
		{3, vote.Told{Yes: true, Ballot: -1}},
		{2, vote.Told{Ballot: -1}},
		{3, vote.Told{Ballot: -1}},
	} {
		if got := v.Prepare(4, k.ballot); got != k.told {
			t.Errorf("Prepare %d: %v", i, got)
		}
	}
	if v.Accept(4, 2, "low") || !v.Accept(4, 3, "a") || !v.Accept(4, 5, "b") || v.Accept(4, 4, "c") || v.Promised(4) != 5 {
		t.Errorf("Accept by 2, 3, 5, 4: promised %d", v.Promised(4))
	}
	for i, k := range []struct {
		ballot int
		told   vote.Told
	}{
		{5, vote.Told{Ballot: 5, Text: "b"}},
		{-1, vote.Told{Ballot: 5, Text: "b"}},
		{6, vote.Told{Yes: true, Ballot: 5, Text: "b"}},
		{math.MaxInt, vote.Told{Yes: true, Ballot: 5, Text: "b"}},
		{math.MaxInt, vote.Told{Ballot: 5, Text: "b"}},
	} {
		if got := v.Prepare(4, k.ballot); got != k.told {
			t.Errorf("Prepare %d, behind Accept: %v", i, got)
		}
	}
	if v.Accept(4, math.MaxInt-1, "c") || !v.Accept(4, math.MaxInt, "") {
		t.Error("Accept by the greatest ballot")
	}
	if ballot, text := v.Accepted(4); ballot != math.MaxInt || text != "" {
		t.Errorf("Accepted: %d, %q", ballot, text)
	}
	if got := v.Prepare(5, 0); got != (vote.Told{Yes: true, Ballot: -1}) {
		t.Errorf("Prepare in another matter: %v", got)
	}
}

func TestVoterOfBallotsBelowNone(t *testing.T) {
	for _, ballot := range []int{-1, -2, -1 << 31, -1 << 32, math.MinInt} {
		var v vote.Voter
		if v.Accept(1, ballot, "a") {
			t.Errorf("Accept by %d", ballot)
		}
		if got := v.Prepare(1, ballot); got != (vote.Told{Ballot: -1}) {
			t.Errorf("Prepare by %d: %v", ballot, got)
		}
		holds(t, &v, nil, 1)
	}
}

func TestVoterOfAllShortRows(t *testing.T) {
	var calls []ask
	for _, ballot := range []int{-1, 0, 1, 2} {
		for _, matter := range []int{0, 1} {
			calls = append(calls, ask{false, matter, ballot, ""}, ask{true, matter, ballot, "a"})
		}
		calls = append(calls, ask{true, 1, ballot, "b"})
	}
	var longer func(asks []ask)
	longer = func(asks []ask) {
		if len(asks) == 4 {
			var v vote.Voter
			for i := range asks {
				puts(t, &v, asks[:i+1])
			}
			return
		}
		for _, a := range calls {
			longer(append(asks[:len(asks):len(asks)], a))
		}
	}
	longer(nil)
}

func TestVoterOfThrownRows(t *testing.T) {
	r := rand.New(rand.NewSource(11))
	for range 300 {
		var v vote.Voter
		var asks []ask
		matters := []int{r.Intn(5) - 2, math.MaxInt - 1, math.MinInt + 1, 0}
		for range 60 {
			ballot := r.Intn(4+len(asks)/4) - 1
			if r.Intn(100) == 0 {
				ballot = odd()[r.Intn(len(odd()))]
			}
			asks = append(asks, ask{r.Intn(2) == 0, matters[r.Intn(4)], ballot, string(rune('a' + r.Intn(26)))})
			puts(t, &v, asks)
		}
		for _, matter := range matters {
			holds(t, &v, asks, matter)
		}
	}
}

// P11.1: New.

func TestNew(t *testing.T) {
	for voters := -3; voters <= 9; voters++ {
		for _, ballot := range append([]int{-1, 0, 1}, odd()...) {
			for _, matter := range []int{-1, 0, 1, math.MinInt, math.MaxInt} {
				var want error
				if voters < 1 || voters > 5 {
					want = api.ErrRange
				} else if ballot < 0 {
					want = api.ErrForm
				}
				p, err := vote.New(voters, matter, ballot, "a")
				if err != want || (p == nil) != (want != nil) {
					t.Errorf("%d voters, matter %d, ballot %d: %v, %v", voters, matter, ballot, p, err)
				}
				if p != nil {
					sees(t, p, voters, "a", nil)
				}
			}
		}
	}
	for _, voters := range odd() {
		for _, ballot := range []int{-1, 0} {
			if p, err := vote.New(voters, 0, ballot, "a"); p != nil || err != api.ErrRange {
				t.Errorf("%d voters: %v, %v", voters, p, err)
			}
		}
	}
}

// P11.1: Promise, Asks, Accepted and Decided.

// proposer is who proposes a text.
func proposer(t *testing.T, voters, ballot int, text string) *vote.Proposer {
	t.Helper()
	p, err := vote.New(voters, 7, ballot, text)
	if err != nil {
		t.Fatal(err)
	}
	return p
}

// sees holds what a proposer tells behind replies against the model.
func sees(t *testing.T, p *vote.Proposer, voters int, own string, replies []reply) {
	t.Helper()
	s := seenOf(voters, own, replies)
	asks, decided := "", ""
	if s.promised {
		asks = s.text
	}
	if s.decided {
		decided = s.text
	}
	if got, is := p.Asks(); got != asks || is != s.promised {
		t.Fatalf("%d voters, %v: Asks %q, %v, not %q, %v", voters, replies, got, is, asks, s.promised)
	}
	if got, is := p.Decided(); got != decided || is != s.decided {
		t.Fatalf("%d voters, %v: Decided %q, %v, not %q, %v", voters, replies, got, is, decided, s.decided)
	}
}

// takes hands a proposer the last of replies, and holds all that it answers against the model.
func takes(t *testing.T, p *vote.Proposer, voters int, own string, replies []reply) {
	t.Helper()
	r := replies[len(replies)-1]
	s := seenOf(voters, own, replies)
	if r.accepted {
		if got := p.Accepted(r.from, r.yes); got != s.decided {
			t.Fatalf("%d voters, %v: Accepted answers %v", voters, replies, got)
		}
	} else if got := p.Promise(r.from, r.told); got != s.promised {
		t.Fatalf("%d voters, %v: Promise answers %v", voters, replies, got)
	}
	sees(t, p, voters, own, replies)
}

func TestProposerByHand(t *testing.T) {
	none, no := vote.Told{Yes: true, Ballot: -1}, vote.Told{Ballot: 9, Text: "no"}
	for _, k := range []struct {
		name   string
		voters int
		told   []vote.Told // by voters 0, 1 and so on
		asks   string
		is     bool
	}{
		{"nothing told", 3, nil, "", false},
		{"one of one", 1, []vote.Told{none}, "own", true},
		{"one of two", 2, []vote.Told{none}, "", false},
		{"two of two", 2, []vote.Told{none, none}, "own", true},
		{"one of three", 3, []vote.Told{none}, "", false},
		{"two of three", 3, []vote.Told{none, none}, "own", true},
		{"two of four", 4, []vote.Told{none, none}, "", false},
		{"three of four", 4, []vote.Told{none, none, none}, "own", true},
		{"two of five", 5, []vote.Told{none, none}, "", false},
		{"three of five", 5, []vote.Told{none, none, none}, "own", true},
		{"those that say no don't count", 3, []vote.Told{no, none, no}, "", false},
		{"what those tell that say no doesn't count", 5, []vote.Told{no, none, none, no, {Yes: true, Ballot: 0, Text: "a"}}, "a", true},
		{"the greatest first", 3, []vote.Told{{true, 2, "b"}, {true, 1, "a"}}, "b", true},
		{"the greatest last", 3, []vote.Told{{true, 1, "a"}, {true, 2, "b"}}, "b", true},
		{"one ballot: what was told first", 3, []vote.Told{{true, 2, "b"}, {true, 2, "c"}}, "b", true},
		{"ballot 0", 3, []vote.Told{none, {true, 0, "a"}}, "a", true},
		{"an empty text told", 3, []vote.Told{none, {true, 0, ""}}, "", true},
		{"ballots below 0 tell none", 3, []vote.Told{{true, -1, "a"}, {true, math.MinInt, "b"}}, "own", true},
		{"what is told behind more than half doesn't count", 3, []vote.Told{{true, 1, "a"}, none, {true, 2, "b"}}, "a", true},
		{"nor where those told none", 3, []vote.Told{none, none, {true, 2, "b"}}, "own", true},
		{"of four the third one still counts", 4, []vote.Told{none, {true, 1, "a"}, {true, 2, "b"}, {true, 3, "c"}}, "b", true},
		{"a ballot above its own", 3, []vote.Told{{true, math.MaxInt, "a"}, none}, "a", true},
	} {
		p := proposer(t, k.voters, 5, "own")
		promised := false
		for from, told := range k.told {
			promised = p.Promise(from, told)
		}
		if asks, is := p.Asks(); asks != k.asks || is != k.is || promised != k.is {
			t.Errorf("%s: %q, %v, Promise %v", k.name, asks, is, promised)
		}
	}
}

func TestSecondAnswers(t *testing.T) {
	yes := vote.Told{Yes: true, Ballot: -1}
	p := proposer(t, 3, 5, "own")
	if p.Promise(0, yes) || p.Promise(0, yes) || p.Promise(0, vote.Told{Yes: true, Ballot: 4, Text: "a"}) {
		t.Error("one voter thrice is more than half")
	}
	if p.Promise(1, vote.Told{}) || p.Promise(1, yes) {
		t.Error("yes behind no counts")
	}
	if !p.Promise(2, yes) || !p.Promise(1, vote.Told{}) || !p.Promise(2, vote.Told{}) {
		t.Error("two of three promised")
	}
	if p.Accepted(0, false) || p.Accepted(0, true) {
		t.Error("yes behind no counts for Accept")
	}
	if p.Accepted(1, true) || p.Accepted(1, true) || p.Accepted(1, false) {
		t.Error("one voter is more than half")
	}
	if !p.Accepted(2, true) || !p.Accepted(2, false) || !p.Accepted(1, false) {
		t.Error("two of three accepted")
	}
	if text, is := p.Decided(); text != "own" || !is {
		t.Errorf("Decided: %q, %v", text, is)
	}
}

func TestAcceptedAheadOfAsks(t *testing.T) {
	p := proposer(t, 3, 0, "own")
	for from := range 3 {
		if p.Accepted(from, true) {
			t.Error("accepted, where it hasn't asked")
		}
	}
	p.Promise(0, vote.Told{Yes: true, Ballot: -1})
	if p.Accepted(0, false) || !p.Promise(1, vote.Told{Yes: true, Ballot: -1}) {
		t.Error("two promises")
	}
	if _, is := p.Decided(); is || p.Accepted(0, true) || !p.Accepted(2, true) {
		t.Error("what came ahead of Asks counts")
	}
}

func TestVotersThatAreNone(t *testing.T) {
	told := vote.Told{Yes: true, Ballot: 3, Text: "a"}
	for voters := 1; voters <= 5; voters++ {
		p := proposer(t, voters, 5, "own")
		var replies []reply
		put := func(from int) {
			for _, r := range []reply{{from: from, told: told}, {accepted: true, from: from, yes: true}} {
				replies = append(replies, r)
				takes(t, p, voters, "own", replies)
			}
		}
		nobody := append([]int{-1, voters, voters + 1}, odd()...)
		for from := -1; from < voters; from++ {
			if from >= 0 {
				put(from)
			}
			for _, other := range nobody {
				put(other)
			}
		}
		if text, is := p.Decided(); voters == 1 && (text != "a" || !is) {
			t.Errorf("one voter: %q, %v", text, is)
		}
	}
}

// repliesOf is replies of all kinds of so many voters, and of nobody.
func repliesOf(voters int) []reply {
	var all []reply
	for from := -1; from <= voters; from++ {
		for _, told := range []vote.Told{{false, 3, "n"}, {true, -1, ""}, {true, -1, "x"}, {true, 0, "a"}, {true, 2, "b"}, {true, 2, "c"}} {
			all = append(all, reply{from: from, told: told})
		}
		all = append(all, reply{accepted: true, from: from}, reply{accepted: true, from: from, yes: true})
	}
	return all
}

func TestProposerOfAllShortRows(t *testing.T) {
	for voters, most := range []int{0, 4, 3, 3, 3, 3} {
		if voters == 0 {
			continue
		}
		var longer func(replies []reply)
		longer = func(replies []reply) {
			if len(replies) == most {
				p := proposer(t, voters, 1, "own")
				for i := range replies {
					takes(t, p, voters, "own", replies[:i+1])
				}
				return
			}
			for _, r := range repliesOf(voters) {
				longer(append(replies[:len(replies):len(replies)], r))
			}
		}
		longer(nil)
	}
}

func TestProposerOfThrownRows(t *testing.T) {
	r := rand.New(rand.NewSource(12))
	ends := map[seen]int{}
	for i := range 20000 {
		voters := i%5 + 1
		kinds := repliesOf(voters)
		p := proposer(t, voters, i, "own")
		var replies []reply
		for range 30 {
			replies = append(replies, kinds[r.Intn(len(kinds))])
			takes(t, p, voters, "own", replies)
		}
		ends[seenOf(voters, "own", replies)]++
	}
	for _, text := range []string{"own", "a", "b", "c"} {
		if ends[seen{true, true, text}] < 100 || ends[seen{true, false, text}] < 10 {
			t.Errorf("%q was seldom asked for: %v", text, ends)
		}
	}
}

func TestZeroProposer(t *testing.T) {
	var p vote.Proposer
	for _, from := range append([]int{-1, 0, 1}, odd()...) {
		p.Promise(from, vote.Told{Yes: true, Ballot: 1, Text: "a"})
		p.Accepted(from, true)
	}
	if text, is := p.Asks(); text != "" || is {
		t.Errorf("Asks: %q, %v", text, is)
	}
	if text, is := p.Decided(); text != "" || is {
		t.Errorf("Decided: %q, %v", text, is)
	}
}
