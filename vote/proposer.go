package vote

import "tidewater/api"

// Proposer is who proposes a text, and what it has been answered.
type Proposer struct {
	voters   int
	text     string // for which it asks: its own, as long as it has been told no other one
	greatest int    // the ballot of that other one, or -1
	promises answers
	accepts  answers
}

// answers is whether each voter that has answered did so by yes.
type answers map[int]bool

// New is who proposes a text by a ballot.
func New(voters, matter, ballot int, text string) (*Proposer, error) {
	if voters < 1 || voters > api.MaxVoters {
		return nil, api.ErrRange
	}
	if ballot < 0 {
		return nil, api.ErrForm
	}
	return &Proposer{voters: voters, text: text, greatest: -1, promises: answers{}, accepts: answers{}}, nil
}

// Promise takes a voter's answer to Prepare, and tells whether more than half have promised.
func (p *Proposer) Promise(from int, t Told) bool {
	if !p.awaits(p.promises, from) {
		return p.most(p.promises)
	}
	// Once more than half have promised, Accept may have been asked for: no other text may come by this ballot.
	if t.Yes && !p.most(p.promises) && t.Ballot > p.greatest {
		p.greatest, p.text = t.Ballot, t.Text
	}
	p.promises[from] = t.Yes
	return p.most(p.promises)
}

// Asks is the text for which it asks, when more than half have promised.
func (p *Proposer) Asks() (string, bool) {
	if !p.most(p.promises) {
		return "", false
	}
	return p.text, true
}

// Accepted takes a voter's answer to Accept, and tells whether the text is decided.
func (p *Proposer) Accepted(from int, yes bool) bool {
	if p.most(p.promises) && p.awaits(p.accepts, from) {
		p.accepts[from] = yes
	}
	return p.most(p.accepts)
}

// Decided is the text that is decided.
func (p *Proposer) Decided() (string, bool) {
	if !p.most(p.accepts) {
		return "", false
	}
	return p.text, true
}

// awaits tells whether a voter is one that hasn't answered yet.
func (p *Proposer) awaits(a answers, from int) bool {
	_, answered := a[from]
	return !answered && from >= 0 && from < p.voters
}

// most tells whether more than half of the voters have answered by yes.
func (p *Proposer) most(a answers) bool {
	said := 0
	for _, yes := range a {
		if yes {
			said++
		}
	}
	return said > p.voters/2
}
