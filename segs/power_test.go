package segs_test

import (
	"bytes"
	"math"
	"slices"
	"strconv"
	"testing"

	"tidewater/api"
	"tidewater/disk"
	"tidewater/segs"
)

// A shelf is what a store is to have, whatever its device's bytes are.
type shelf struct {
	segments int
	parts    []part
}

// shelfOf is what an image's store has.
func shelfOf(image []byte) *shelf {
	h := &shelf{segments: len(image) / 4096}
	for _, p := range places(image) {
		h.parts = append(h.parts, p.part)
	}
	return h
}

// clone is a shelf of its own.
func (h *shelf) clone() *shelf {
	c := &shelf{segments: h.segments}
	for _, p := range h.parts {
		c.parts = append(c.parts, part{p.number, slices.Clone(p.records)})
	}
	return c
}

// fits tells whether a record has room in the last segment.
func (h *shelf) fits(b []byte) bool {
	if len(h.parts) == 0 {
		return false
	}
	left := 63
	for _, r := range append(slices.Clone(h.parts[len(h.parts)-1].records), b) {
		left -= 1 + (len(r)+63)/64
	}
	return left >= 0
}

// grow has a further segment; false, if there is no room for one.
func (h *shelf) grow() bool {
	if len(h.parts) == h.segments {
		return false
	}
	number := 0
	if len(h.parts) > 0 {
		number = h.parts[len(h.parts)-1].number + 1
	}
	h.parts = append(h.parts, part{number: number})
	return true
}

// append has a further record.
func (h *shelf) append(b []byte) (int, error) {
	if !h.fits(b) && !h.grow() {
		return 0, api.ErrFull
	}
	p := &h.parts[len(h.parts)-1]
	p.records = append(p.records, bytes.Clone(b))
	return p.number, nil
}

// drop has a segment no more.
func (h *shelf) drop(number int) error {
	i := slices.IndexFunc(h.parts, func(p part) bool { return p.number == number })
	if i < 0 {
		return api.ErrNone
	}
	if i == len(h.parts)-1 {
		return api.ErrState
	}
	h.parts = slices.Delete(h.parts, i, i+1)
	return nil
}

// text is what a store of it tells.
func (h *shelf) text() string { return text(h.parts, h.segments-len(h.parts)) }

// A change is a call of a store that writes, and what it makes of a shelf.
type change struct {
	name    string
	record  []byte // of an Append
	number  int    // of a Drop
	store   func(s *segs.Store) (int, error)
	whole   func(h *shelf) (int, error)
	halfway func(h *shelf) // what may be left of it besides nothing and all
}

// appending is an Append: a segment that it takes may be left without the record.
func appending(b []byte) change {
	return change{
		"Append of " + strconv.Itoa(len(b)) + " bytes", b, 0,
		func(s *segs.Store) (int, error) { return s.Append(b) },
		func(h *shelf) (int, error) { return h.append(b) },
		func(h *shelf) {
			if !h.fits(b) {
				h.grow()
			}
		},
	}
}

// dropping is a Drop.
func dropping(number int) change {
	return change{
		"Drop of " + strconv.Itoa(number), nil, number,
		func(s *segs.Store) (int, error) { return 0, s.Drop(number) },
		func(h *shelf) (int, error) { return 0, h.drop(number) },
		func(h *shelf) {},
	}
}

// outcomes are the shelves that a loss of power may leave: as before the change, halfway, and behind it.
func (c change) outcomes(before *shelf) []*shelf {
	halfway, behind := before.clone(), before.clone()
	c.halfway(halfway)
	c.whole(behind)
	return []*shelf{before, halfway, behind}
}

// A loss is what becomes of pending writes.
type loss struct {
	kept      uint64
	torn, cut int
}

// some are numbers of pending writes: all of few, of many the first, the last and some between.
func some(pending int) []int {
	if pending <= 8 {
		return slices.Collect(func(yield func(int) bool) {
			for i := range pending {
				if !yield(i) {
					return
				}
			}
		})
	}
	return []int{0, 1, 2, pending / 3, pending / 2, pending - 3, pending - 2, pending - 1}
}

// losses are ways to lose power over so many pending writes.
func losses(pending int) []loss {
	all := []loss{{0, -1, 0}, {math.MaxUint64, -1, 0}, {0x5555555555555555, -1, 0}, {0xaaaaaaaaaaaaaaaa, -1, 0}}
	for _, i := range some(pending) {
		bit := uint64(1) << (i % 64)
		all = append(all, loss{bit, -1, 0}, loss{^bit, -1, 0}, loss{bit - 1, -1, 0})
		for _, cut := range []int{1, 2, 8, 40, 63} {
			all = append(all, loss{0, i, cut}, loss{bit - 1, i, cut}, loss{math.MaxUint64, i, cut})
		}
	}
	return all
}

// A scene is a device's bytes, and what is done to its store.
type scene struct {
	name   string
	image  []byte
	change change
}

// stored is an image of some segments with records of some sizes.
func stored(t *testing.T, segments int, sizes ...int) []byte {
	t.Helper()
	image := make([]byte, segments*4096)
	for k, size := range sizes {
		must2(t)(appended(image, fill(byte(10+k), size)))
	}
	return image
}

// dropping some segments of an image.
func without(t *testing.T, image []byte, numbers ...int) []byte {
	t.Helper()
	for _, n := range numbers {
		must(t, dropped(image, n))
	}
	return image
}

// small are sizes that fill a segment with records of two sectors each, and leave one sector over.
func small() []int {
	sizes := make([]int, 31)
	for k := range sizes {
		sizes[k] = k + 1
	}
	return sizes
}

func scenes(t *testing.T) []scene {
	// Where each sector reads as a head, whatever comes to be there by mistake shows.
	ones := fill(1, 2*4096)
	lay(ones, 0, head(2, 1))
	lay(ones, 64, head(0, 1))
	torn := stored(t, 2, 5, 70)
	lay(torn, 7, fill(1, 30*64))
	tornAtEnd := stored(t, 2, 3700)
	lay(tornAtEnd, 61, fill(1, 3*64))
	dirty := without(t, stored(t, 2, append(small(), 3968)...), 0)
	turned := without(t, stored(t, 3, 3968, 3968, 3968), 0)
	must2(t)(appended(turned, rising(3000)))
	return []scene{
		{"a new store", make([]byte, 2*4096), appending([]byte("ab"))},
		{"a new store, all of a segment", make([]byte, 4096), appending(rising(3968))},
		{"a store of ones", ones, appending(rising(65))},
		{"behind others", stored(t, 2, 1, 64, 65, 200), appending(rising(300))},
		{"a byte behind others", stored(t, 1, 1, 64, 65, 200), appending([]byte{1})},
		{"behind a torn record", torn, appending(rising(64))},
		{"behind a torn record at a segment's end", tornAtEnd, appending(rising(64))},
		{"just what fits", stored(t, 2, 3000), appending(rising(14 * 64))},
		{"a byte too many", stored(t, 2, 3000), appending(rising(14*64 + 1))},
		{"a further segment", stored(t, 3, 3968), appending(rising(100))},
		{"a segment that was dropped", dirty, appending(rising(64))},
		{"a segment that was dropped, by a greater record", dirty, appending(rising(700))},
		{"up to another segment", turned, appending(rising(14 * 64))},
		{"the oldest one is dropped", stored(t, 3, 3968, 3968, 1), dropping(0)},
		{"one between is dropped", stored(t, 4, 3968, 3968, 1), dropping(1)},
		{"one with many records is dropped", stored(t, 2, append(small(), 1000)...), dropping(0)},
	}
}

// goOn appends to a store behind a loss of power: what was lost must not come back by it.
func goOn(t *testing.T, d *disk.Device, h *shelf, what string) {
	t.Helper()
	for k, b := range [][]byte{fill(1, 64), fill(3, 200)} {
		s := open(t, d)
		n, err := s.Append(b)
		if want, wrong := h.append(b); n != want || err != wrong {
			t.Fatalf("%s: then Append %d answers %d, %v, not %d, %v", what, k, n, err, want, wrong)
		}
		d.Crash(0, -1, 0)
		if got := told(t, open(t, d)); got != h.text() {
			t.Fatalf("%s: behind Append %d the store is %s, not %s", what, k, brief(got), brief(h.text()))
		}
	}
}

// after does a scene's change with so much power, and answers whether that was enough.
func (c scene) after(t *testing.T, power int) (*disk.Device, bool) {
	t.Helper()
	d := device(t, c.image)
	s := open(t, d)
	d.Stop(power)
	n, err := c.change.store(s)
	if err == nil {
		return d, true
	}
	if n != 0 || err != api.ErrDown {
		t.Fatalf("%s: %s with power for %d answers %d, %v", c.name, c.change.name, power, n, err)
	}
	return d, false
}

// P8.2: a loss of power at each write and flush of a call.

func TestLossOfPowerAtEachStep(t *testing.T) {
	for _, c := range scenes(t) {
		t.Run(c.name, func(t *testing.T) {
			t.Parallel()
			outcomes := c.change.outcomes(shelfOf(c.image))
			power := 0
			for ; ; power++ {
				d, whole := c.after(t, power)
				if whole {
					break
				}
				for _, l := range losses(d.Pending()) {
					what := "power for " + strconv.Itoa(power) + ", kept " + strconv.FormatUint(l.kept, 16) + ", torn " + strconv.Itoa(l.torn) + " at " + strconv.Itoa(l.cut)
					d, _ := c.after(t, power)
					d.Crash(l.kept, l.torn, l.cut)
					got := told(t, open(t, d))
					i := slices.IndexFunc(outcomes, func(h *shelf) bool { return h.text() == got })
					if i < 0 {
						t.Fatalf("%s: the store is %s", what, brief(got))
					}
					goOn(t, d, outcomes[i].clone(), what)
				}
			}
			if power < 2 {
				t.Fatalf("%d calls of the device are enough", power)
			}
			// What was answered is durable, whatever is lost.
			d, _ := c.after(t, power)
			d.Crash(0, -1, 0)
			if got := told(t, open(t, d)); got != outcomes[2].text() {
				t.Fatalf("what was answered is %s, not %s", brief(got), brief(outcomes[2].text()))
			}
			goOn(t, d, outcomes[2].clone(), "all was done")
		})
	}
}

// With all that is pending kept, nothing but the last flush is missing.
func TestAllKeptIsAllDone(t *testing.T) {
	for _, c := range scenes(t) {
		power := 0
		for {
			if _, whole := c.after(t, power); whole {
				break
			}
			power++
		}
		d, _ := c.after(t, power-1)
		if d.Pending() == 0 {
			t.Fatalf("%s: nothing is pending ahead of the last flush", c.name)
		}
		d.Crash(math.MaxUint64, -1, 0)
		if got, want := told(t, open(t, d)), c.change.outcomes(shelfOf(c.image))[2].text(); got != want {
			t.Fatalf("%s: %s, not %s", c.name, brief(got), brief(want))
		}
	}
}

// flushed are the durable bytes that an Append makes one behind the other, flush by flush.
func flushed(t *testing.T, image, b []byte) [][]byte {
	t.Helper()
	rows := [][]byte{bytes.Clone(image)}
	put := func(at int, b []byte) {
		image = bytes.Clone(image)
		lay(image, at, b)
		rows = append(rows, image)
	}
	h := shelfOf(image)
	if !h.fits(b) {
		h.grow()
		number := h.parts[len(h.parts)-1].number
		first, err := take(bytes.Clone(image), number)
		must(t, err)
		put(first, make([]byte, 4096))
		put(first, head(1, byte(number)))
	}
	all := places(image)
	last := all[len(all)-1]
	body := make([]byte, min((len(b)+63)/64+1, last.first+63-last.end)*64)
	copy(body, b)
	put(last.end+1, body)
	put(last.end, head(1, byte(len(b)), byte(len(b)>>8)))
	return rows
}

// What is durable ahead of what: each flush that is told makes its own writes durable, and no others.
func TestFlushes(t *testing.T) {
	for _, c := range scenes(t) {
		var rows [][]byte
		if c.change.record != nil {
			rows = flushed(t, c.image, c.change.record)
		} else {
			behind := bytes.Clone(c.image)
			must(t, dropped(behind, c.change.number))
			rows = [][]byte{c.image, behind}
		}
		// What a flush makes as it was isn't to be seen.
		rows = slices.CompactFunc(rows, bytes.Equal)
		k := 0
		for power := 0; ; power++ {
			d, whole := c.after(t, power)
			if k+1 < len(rows) && !bytes.Equal(d.Image(), rows[k]) {
				k++
			}
			if !bytes.Equal(d.Image(), rows[k]) {
				t.Fatalf("%s: with power for %d the durable bytes are others than behind %d of %d flushes", c.name, power, k, len(rows)-1)
			}
			if whole {
				break
			}
		}
		if k != len(rows)-1 {
			t.Fatalf("%s: all is done behind %d of %d flushes", c.name, k, len(rows)-1)
		}
	}
}

// P8.2: many calls, and many losses of power.

// thrown is a row of numbers that look thrown, the same each time.
func thrown(seed uint64) func(below int) int {
	return func(below int) int {
		seed = seed*6364136223846793005 + 1442695040888963407
		return int((seed >> 33) % uint64(below))
	}
}

// throwChange is a change that may be done, or not.
func throwChange(next func(int) int, h *shelf, k int) change {
	if next(4) == 0 {
		number := next(5)
		if len(h.parts) > 0 {
			number = h.parts[next(len(h.parts))].number
		}
		return dropping(number)
	}
	size := 1 + next([]int{10, 64, 200, 1000, 3968}[next(5)])
	// Some records have bytes that read as heads.
	return appending(fill(byte([]int{1, 2, k}[next(3)]), size))
}

// throwLoss is a loss of power over so many pending writes.
func throwLoss(next func(int) int, pending int) loss {
	kept := []uint64{0, math.MaxUint64, uint64(next(1<<30)) * 0x100000001, 1 << next(64)}[next(4)]
	return loss{kept, next(pending+2) - 1, next(65)}
}

func TestManyLossesOfPower(t *testing.T) {
	for seed := range uint64(120) {
		next := thrown(seed)
		segments := 1 + next(4)
		d, err := disk.New(segments*64 + next(64))
		must(t, err)
		s := open(t, d)
		h := &shelf{segments: segments}
		for k := range 150 {
			what := "seed " + strconv.Itoa(int(seed)) + ", call " + strconv.Itoa(k)
			c := throwChange(next, h, k)
			outcomes := c.outcomes(h)
			if next(2) == 0 {
				d.Stop(next([]int{4, 20, 140}[next(3)]))
			}
			n, err := c.store(s)
			if err == api.ErrDown {
				l := throwLoss(next, d.Pending())
				d.Crash(l.kept, l.torn, l.cut)
				s = open(t, d)
				got := told(t, s)
				i := slices.IndexFunc(outcomes, func(h *shelf) bool { return h.text() == got })
				if i < 0 {
					t.Fatalf("%s, %s: behind a loss of power %s, before it %s", what, c.name, brief(got), brief(h.text()))
				}
				h = outcomes[i]
				continue
			}
			if want, wrong := c.whole(h); n != want || err != wrong {
				t.Fatalf("%s, %s answers %d, %v, not %d, %v", what, c.name, n, err, want, wrong)
			}
			if d.Down() || next(3) == 0 {
				d.Crash(0, -1, 0)
				s = open(t, d)
			}
			if got := told(t, s); got != h.text() {
				t.Fatalf("%s, %s: %s, not %s", what, c.name, brief(got), brief(h.text()))
			}
			d.Stop(1 << 40)
		}
	}
}
