package vote_test

import (
	"math"

	"tidewater/vote"
)

// odd is numbers that are wrong wherever the document names a bound.
func odd() []int {
	return []int{math.MinInt, math.MinInt + 1, -1 << 32, -1 << 31, -7, -2, 6, 7, 1 << 31, 1 << 32, 1<<32 + 1, 1 << 62, math.MaxInt - 1, math.MaxInt}
}

// An ask is a call of a voter: of Accept, or else of Prepare.
type ask struct {
	accept         bool
	matter, ballot int
	text           string
}

// promisedOf is what a voter has promised behind asks: the greatest ballot of all, since what it refuses is lower than that.
func promisedOf(asks []ask, matter int) int {
	greatest := -1
	for _, a := range asks {
		if a.matter == matter {
			greatest = max(greatest, a.ballot)
		}
	}
	return greatest
}

// acceptedOf is what a voter has accepted behind asks: the last one to accept that none ahead of it was above.
func acceptedOf(asks []ask, matter int) (int, string) {
	for i := len(asks) - 1; i >= 0; i-- {
		a := asks[i]
		if a.accept && a.matter == matter && a.ballot >= 0 && promisedOf(asks[:i], matter) <= a.ballot {
			return a.ballot, a.text
		}
	}
	return -1, ""
}

// answersOf is what a voter answers to the last of asks.
func answersOf(asks []ask) (vote.Told, bool) {
	last := len(asks) - 1
	a := asks[last]
	before := promisedOf(asks[:last], a.matter)
	if a.accept {
		return vote.Told{}, a.ballot >= 0 && a.ballot >= before
	}
	ballot, text := acceptedOf(asks[:last], a.matter)
	return vote.Told{Yes: a.ballot > before, Ballot: ballot, Text: text}, false
}

// A reply is a call of a proposer: of Accepted with yes, or else of Promise with what is told.
type reply struct {
	accepted bool
	from     int
	told     vote.Told
	yes      bool
}

// seen is what a proposer has made of replies.
type seen struct {
	promised, decided bool
	text              string
}

// seenOf is what a proposer of a text makes of replies: the first one of each voter counts, and those to Accept only behind enough promises.
func seenOf(voters int, text string, replies []reply) seen {
	need := []int{0, 1, 2, 2, 3, 3}[voters]
	s := seen{text: text}
	var promised, accepted [6]bool
	var told []vote.Told
	accepts := 0
	for _, r := range replies {
		if r.from < 0 || r.from >= voters {
			continue
		}
		if !r.accepted && !promised[r.from] {
			promised[r.from] = true
			if r.told.Yes {
				told = append(told, r.told)
			}
		}
		if r.accepted && len(told) >= need && !accepted[r.from] {
			accepted[r.from] = true
			if r.yes {
				accepts++
			}
		}
	}
	s.promised, s.decided = len(told) >= need, accepts >= need
	greatest := -1
	for i, t := range told {
		if i < need && t.Ballot > greatest {
			greatest, s.text = t.Ballot, t.Text
		}
	}
	return s
}
