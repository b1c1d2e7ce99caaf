package chain_test

import (
	"maps"
	"math"
	"slices"
	"strconv"
	"strings"
	"testing"

	"tidewater/api"
	"tidewater/chain"
	"tidewater/disk"
	"tidewater/plan"
	"tidewater/unit"
)

const (
	junk     = "\x00"
	anyEpoch = 1 << 30 // by which no unit refuses a call
)

// odd is numbers that are wrong wherever the document names a bound.
func odd() []int {
	return []int{math.MinInt, math.MinInt + 1, -1 << 32, -1 << 31, -2, -1, 1<<30 + 1, 1 << 31, 1 << 32, 1<<32 + 1, 1 << 62, math.MaxInt - 1, math.MaxInt}
}

// must asks for no error.
func must(t *testing.T, err error) {
	t.Helper()
	if err != nil {
		t.Fatal(err)
	}
}

// sized is a plan of chains of so many units, numbered along its chains from first on, by strides (round behind 11).
func sized(epoch, first, stride int, sizes ...int) plan.Plan {
	p := plan.Plan{Epoch: epoch}
	number := first
	for _, size := range sizes {
		var copies []int
		for range size {
			copies = append(copies, number)
			number = (number + stride) % 12
		}
		p.Chains = append(p.Chains, copies)
	}
	return p
}

// shapes is all rows of how many units the chains of a right plan may have.
func shapes() [][]int {
	var all [][]int
	for a := 1; a <= 3; a++ {
		all = append(all, []int{a})
		for b := 1; b <= 3; b++ {
			all = append(all, []int{a, b})
			for c := 1; c <= 3; c++ {
				all = append(all, []int{a, b, c})
			}
		}
	}
	return all
}

// wrongs is plans that aren't right, by each word of what is right.
func wrongs() []plan.Plan {
	all := []plan.Plan{
		{},
		{Chains: [][]int{}},
		{Chains: [][]int{{}}},
		{Chains: [][]int{{0, 1}, nil}},
		{Chains: [][]int{{}, {0, 1}}},
		{Chains: [][]int{{0, 1, 2, 3}}},
		{Chains: [][]int{{0}, {1}, {2}, {3}}},
		{Chains: [][]int{{0, 0}}},
		{Chains: [][]int{{0, 1}, {2, 1}}},
		{Chains: [][]int{{-1}}},
		{Chains: [][]int{{0, 12}}},
		{Epoch: -1, Chains: [][]int{{0, 1}}},
		{Epoch: 1<<30 + 1, Chains: [][]int{{0, 1}}},
	}
	for _, n := range odd() {
		all = append(all, plan.Plan{Epoch: n, Chains: [][]int{{0}}}, plan.Plan{Chains: [][]int{{0, n}}})
	}
	return all
}

// twin is a plan that shares nothing with another one.
func twin(p plan.Plan) plan.Plan {
	q := plan.Plan{Epoch: p.Epoch}
	for _, copies := range p.Chains {
		q.Chains = append(q.Chains, append([]int{}, copies...))
	}
	return q
}

// alike tells whether plans have the same fields, nil and empty lists being one.
func alike(a, b plan.Plan) bool {
	return a.Epoch == b.Epoch && slices.EqualFunc(a.Chains, b.Chains, slices.Equal[[]int])
}

// device is a device of so many sectors.
func device(t *testing.T, sectors int) *disk.Device {
	t.Helper()
	d, err := disk.New(sectors)
	must(t, err)
	return d
}

// open opens a device's unit.
func open(t *testing.T, d *disk.Device) *unit.Unit {
	t.Helper()
	u, err := unit.Open(d)
	must(t, err)
	return u
}

// fresh is so many new units, with a segment or more each.
func fresh(t *testing.T, count, segments int) (chain.Units, []*disk.Device) {
	t.Helper()
	var us chain.Units
	var ds []*disk.Device
	for range count {
		d := device(t, segments*64)
		ds, us = append(ds, d), append(us, open(t, d))
	}
	return us, ds
}

// choke fills a unit with pages of great own addresses, up to where no record has room.
func choke(t *testing.T, u *unit.Unit) {
	t.Helper()
	at, size := 4000, 1500
	for size > 0 {
		switch err := u.Write(u.Epoch(), at, make([]byte, size)); err {
		case nil:
			at++
		case api.ErrFull:
			size /= 40
		default:
			t.Fatal(err)
		}
	}
}

// A shelf is what a unit is to hold, by the words of its chapter. Its device may have an error for all that is written to it.
type shelf struct {
	epoch, trimmed int
	pages          map[int]string
	device         error
}

// newShelf is a shelf without anything.
func newShelf() *shelf { return &shelf{pages: map[int]string{}} }

// clone is one that is apart.
func (s *shelf) clone() *shelf {
	c := *s
	c.pages = maps.Clone(s.pages)
	return &c
}

// admit is what each call asks first.
func (s *shelf) admit(epoch, at, last int) error {
	switch {
	case epoch < s.epoch, epoch > 1<<30:
		return api.ErrSealed
	case at < 0, at > last:
		return api.ErrRange
	}
	return nil
}

func (s *shelf) write(epoch, at int, b string) error {
	_, is := s.pages[at]
	switch err := s.admit(epoch, at, 4095); {
	case err != nil:
		return err
	case b == "", len(b) > 2048:
		return api.ErrLong
	case at < s.trimmed:
		return api.ErrTrimmed
	case is:
		return api.ErrWritten
	case s.device != nil:
		return s.device
	}
	s.pages[at] = b
	return nil
}

func (s *shelf) read(epoch, at int) (string, error) {
	b, is := s.pages[at]
	switch err := s.admit(epoch, at, 4095); {
	case err != nil:
		return "", err
	case at < s.trimmed:
		return "", api.ErrTrimmed
	case !is:
		return "", api.ErrUnwritten
	}
	return b, nil
}

func (s *shelf) trim(epoch, to int) error {
	switch err := s.admit(epoch, to, 4096); {
	case err != nil:
		return err
	case to <= s.trimmed:
		return nil
	case s.device != nil:
		return s.device
	}
	s.trimmed = to
	for at := range s.pages {
		if at < to {
			delete(s.pages, at)
		}
	}
	return nil
}

func (s *shelf) tail() int {
	tail := s.trimmed
	for at := range s.pages {
		tail = max(tail, at+1)
	}
	return tail
}

// A rack is shelves by number; nil is one whose unit is down.
type rack []*shelf

// clone is one that is apart.
func (r rack) clone() rack {
	var c rack
	for _, s := range r {
		if s != nil {
			s = s.clone()
		}
		c = append(c, s)
	}
	return c
}

// of is a shelf whose unit is up, or nil.
func (r rack) of(number int) *shelf {
	for i, s := range r {
		if i == number {
			return s
		}
	}
	return nil
}

// spot is where an address of a right plan stands: addresses are dealt to the chains by turns.
func spot(p plan.Plan, a int) ([]int, int) {
	c, at := 0, 0
	for range a {
		c++
		if c == len(p.Chains) {
			c, at = 0, at+1
		}
	}
	return p.Chains[c], at
}

// place is what all calls by a plan's address ask first.
func place(right bool, a int) error {
	switch {
	case !right:
		return api.ErrForm
	case a < 0, a > 4095:
		return api.ErrRange
	}
	return nil
}

// put is writing copy k.
func (r rack) put(epoch, number, k, at int, b string) error {
	s := r.of(number)
	if s == nil {
		return api.ErrDown
	}
	err := s.write(epoch, at, b)
	if err == api.ErrWritten && k > 0 {
		err = nil
		if s.pages[at] != b {
			err = api.ErrState
		}
	}
	return err
}

func (r rack) step(p plan.Plan, a, k int, b string) error {
	copies, at := spot(p, a)
	if k < 0 || k > len(copies)-1 {
		return api.ErrRange
	}
	return r.put(p.Epoch, copies[k], k, at, b)
}

func (r rack) write(p plan.Plan, a int, b string) error {
	copies, at := spot(p, a)
	if err := r.put(p.Epoch, copies[0], 0, at, b); err != nil {
		return err
	}
	return r.others(p.Epoch, copies, at, b)
}

func (r rack) others(epoch int, copies []int, at int, b string) error {
	for k, number := range copies {
		if k == 0 {
			continue
		}
		if err := r.put(epoch, number, k, at, b); err != nil {
			return err
		}
	}
	return nil
}

func (r rack) read(p plan.Plan, a int) (string, error) {
	copies, at := spot(p, a)
	last := r.of(copies[len(copies)-1])
	if last == nil {
		return "", api.ErrDown
	}
	b, err := last.read(p.Epoch, at)
	if err != api.ErrUnwritten || len(copies) == 1 {
		return b, err
	}
	first := r.of(copies[0])
	if first == nil {
		return "", api.ErrDown
	}
	if b, err = first.read(p.Epoch, at); err != nil {
		return "", err
	}
	if err := r.others(p.Epoch, copies, at, b); err != nil {
		return "", err
	}
	return b, nil
}

func (r rack) fill(p plan.Plan, a int) (string, error) {
	copies, at := spot(p, a)
	b := junk
	err := r.put(p.Epoch, copies[0], 0, at, b)
	if err == api.ErrWritten {
		b, err = r.of(copies[0]).pages[at], nil
	}
	if err == nil {
		err = r.others(p.Epoch, copies, at, b)
	}
	if err != nil {
		return "", err
	}
	return b, nil
}

func (r rack) trim(p plan.Plan, to int) error {
	if to < 0 || to > 4096 {
		return api.ErrRange
	}
	for c, copies := range p.Chains {
		// The addresses below, counted: so many own ones of this chain are to go.
		own := 0
		for a := c; a < to; a += len(p.Chains) {
			own++
		}
		for _, number := range copies {
			s := r.of(number)
			if s == nil {
				return api.ErrDown
			}
			if err := s.trim(p.Epoch, own); err != nil {
				return err
			}
		}
	}
	return nil
}

func (r rack) tail(p plan.Plan) (int, error) {
	tail := 0
	for c, copies := range p.Chains {
		s := r.of(copies[0])
		if s == nil {
			return 0, api.ErrDown
		}
		if own := s.tail(); own > 0 {
			tail = max(tail, (own-1)*len(p.Chains)+c+1)
		}
	}
	return tail, nil
}

// held holds what units tell of themselves and of own addresses against shelves: what is wrong.
func held(us chain.Units, r rack, addresses ...int) string {
	if len(us) != len(r) {
		return strconv.Itoa(len(us)) + " units"
	}
	for i, s := range r {
		u := us[i]
		if (u == nil) != (s == nil) {
			return "unit " + strconv.Itoa(i) + " came, or went"
		}
		if u == nil {
			continue
		}
		if wrong := s.wrong(u, addresses); wrong != "" {
			return "unit " + strconv.Itoa(i) + " has " + wrong
		}
	}
	return ""
}

// wrong holds one unit against its shelf.
func (s *shelf) wrong(u *unit.Unit, addresses []int) string {
	if u.Epoch() != s.epoch || u.Trimmed() != s.trimmed || u.Tail() != s.tail() {
		return "epoch " + strconv.Itoa(u.Epoch()) + ", trimmed " + strconv.Itoa(u.Trimmed()) + ", tail " + strconv.Itoa(u.Tail()) + ", not " + strconv.Itoa(s.epoch) + ", " + strconv.Itoa(s.trimmed) + ", " + strconv.Itoa(s.tail())
	}
	for _, at := range append(slices.Sorted(maps.Keys(s.pages)), addresses...) {
		want, is := s.pages[at]
		b, _ := u.Read(anyEpoch, at)
		if u.Has(at) != is || string(b) != want {
			return "at " + strconv.Itoa(at) + " " + brief(string(b)) + ", not " + brief(want)
		}
	}
	return ""
}

// brief is a text that can be read in a message.
func brief(b string) string {
	return strconv.Quote(b[:min(len(b), 12)]) + " (" + strconv.Itoa(len(b)) + ")"
}

// An answer is what a call answers.
type answer struct {
	b   string
	n   int
	err error
}

// text is an answer as it is told.
func (a answer) text() string {
	said := "no error"
	if a.err != nil {
		said = a.err.Error()
	}
	return strings.Join([]string{brief(a.b), strconv.Itoa(a.n), said}, ", ")
}

// A call is one of the layer's, and what its words make of it. With an error bytes that aren't none are told as "not none".
type call struct {
	name string
	do   func(us chain.Units) answer
	want func(r rack) answer
}

// told is an answer of bytes.
func told(b []byte, err error) answer {
	if err != nil && b != nil {
		return answer{b: "not none", err: err}
	}
	return answer{b: string(b), err: err}
}

// by is the name of a call by a plan.
func by(name string, p plan.Plan, numbers ...int) string {
	text := name + " by epoch " + strconv.Itoa(p.Epoch) + " of"
	for _, copies := range p.Chains {
		text += " " + list(copies)
	}
	return text + ": " + list(numbers)
}

// list is numbers as a text.
func list(numbers []int) string {
	var all []string
	for _, n := range numbers {
		all = append(all, strconv.Itoa(n))
	}
	return "(" + strings.Join(all, " ") + ")"
}

// asked is what the words make of a call at a plan's address.
func asked(p plan.Plan, a int, then func(r rack) answer) func(r rack) answer {
	return func(r rack) answer {
		if err := place(plan.Right(p), a); err != nil {
			return answer{err: err}
		}
		return then(r)
	}
}

// formed is what the words make of a call by a plan.
func formed(p plan.Plan, then func(r rack) answer) func(r rack) answer {
	return asked(p, 0, then)
}

func stepping(p plan.Plan, a, k int, b string) call {
	return call{by("Step "+brief(b), p, a, k),
		func(us chain.Units) answer { return answer{err: chain.Step(us, p, a, k, []byte(b))} },
		asked(p, a, func(r rack) answer { return answer{err: r.step(p, a, k, b)} })}
}

func writing(p plan.Plan, a int, b string) call {
	return call{by("Write "+brief(b), p, a),
		func(us chain.Units) answer { return answer{err: chain.Write(us, p, a, []byte(b))} },
		asked(p, a, func(r rack) answer { return answer{err: r.write(p, a, b)} })}
}

func reading(p plan.Plan, a int) call {
	return call{by("Read", p, a),
		func(us chain.Units) answer { return told(chain.Read(us, p, a)) },
		asked(p, a, func(r rack) answer {
			b, err := r.read(p, a)
			return answer{b: b, err: err}
		})}
}

func filling(p plan.Plan, a int) call {
	return call{by("Fill", p, a),
		func(us chain.Units) answer { return told(chain.Fill(us, p, a)) },
		asked(p, a, func(r rack) answer {
			b, err := r.fill(p, a)
			return answer{b: b, err: err}
		})}
}

func others(epoch int, copies []int, at int, b string) call {
	return call{by("Others "+brief(b), plan.Plan{Epoch: epoch, Chains: [][]int{copies}}, at),
		func(us chain.Units) answer { return answer{err: chain.Others(us, epoch, copies, at, []byte(b))} },
		func(r rack) answer { return answer{err: r.others(epoch, copies, at, b)} }}
}

func trimming(p plan.Plan, to int) call {
	return call{by("Trim", p, to),
		func(us chain.Units) answer { return answer{err: chain.Trim(us, p, to)} },
		formed(p, func(r rack) answer { return answer{err: r.trim(p, to)} })}
}

func tailing(p plan.Plan) call {
	return call{by("Tail", p),
		func(us chain.Units) answer {
			n, err := chain.Tail(us, p)
			return answer{n: n, err: err}
		},
		formed(p, func(r rack) answer {
			n, err := r.tail(p)
			return answer{n: n, err: err}
		})}
}

// puts puts a call to units and to shelves, and holds its answer and what it leaves against each other: the answer.
func (c call) puts(t *testing.T, us chain.Units, r rack, addresses ...int) answer {
	t.Helper()
	want := c.want(r)
	if got := c.do(us); got != want {
		t.Fatalf("%s: %s, not %s", c.name, got.text(), want.text())
	}
	if wrong := held(us, r, addresses...); wrong != "" {
		t.Fatalf("behind %s: %s", c.name, wrong)
	}
	return want
}
