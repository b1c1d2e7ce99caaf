package unit_test

import (
	"math"
	"slices"
	"strconv"
	"testing"

	"tidewater/api"
	"tidewater/disk"
)

// outcomes are the models that a loss of power during a call may leave, in the order in which the call comes by them: as before it, with a further segment, with its record, with the oldest segments dropped one by one.
func outcomes(c call, before *model) []*model {
	behind := before.clone()
	if _, err := c.model(behind); err != nil || same(before, behind) {
		return []*model{before}
	}
	rows := []*model{before}
	last := behind.parts[len(behind.parts)-1]
	appended := before.clone()
	appended.append(last.notes[len(last.notes)-1])
	if len(appended.parts) > len(before.parts) {
		grown := before.clone()
		grown.parts = append(grown.parts, part{number: last.number})
		rows = append(rows, grown)
	}
	for n := range len(appended.parts) - len(behind.parts) + 1 {
		rows = append(rows, &model{appended.segments, appended.parts[n:]})
	}
	return rows
}

// same tells whether two models have the same notes.
func same(a, b *model) bool {
	return slices.EqualFunc(a.parts, b.parts, func(a, b part) bool {
		return a.number == b.number && slices.Equal(a.notes, b.notes)
	})
}

// found is the number of the outcome that a device has; below 0 if it has none of them.
func found(t *testing.T, d *disk.Device, rows []*model, addresses []int) int {
	t.Helper()
	u := open(t, d)
	return slices.IndexFunc(rows, func(m *model) bool {
		return stored(d, m) == "" && seen(u, m, addresses) == "" && u.Free() == m.segments-len(m.parts)
	})
}

// A loss is what becomes of pending writes.
type loss struct {
	kept      uint64
	torn, cut int
}

func (l loss) name() string {
	return "kept " + strconv.FormatUint(l.kept, 16) + ", torn " + strconv.Itoa(l.torn) + " at " + strconv.Itoa(l.cut)
}

// losses are ways to lose power over so many pending writes: of many, the first ones, the last ones and one between are told apart.
func losses(pending int) []loss {
	all := []loss{{0, -1, 0}, {math.MaxUint64, -1, 0}, {0x5555555555555555, -1, 0}, {0xaaaaaaaaaaaaaaaa, -1, 0}}
	for i := range pending {
		if i > 2 && i < pending-2 && i != pending/2 {
			continue
		}
		bit := uint64(1) << (i % 64)
		all = append(all, loss{bit, -1, 0}, loss{^bit, -1, 0}, loss{bit - 1, -1, 0})
		for _, cut := range []int{1, 40, 63} {
			all = append(all, loss{0, i, cut}, loss{bit - 1, i, cut}, loss{math.MaxUint64, i, cut})
		}
	}
	return all
}

// A scene is a device's bytes and its model, and a call.
type scene struct {
	name  string
	image []byte
	model *model
	call  call
}

// played is the image and the model of a unit to which calls were done.
func played(t *testing.T, segments int, calls ...call) ([]byte, *model) {
	t.Helper()
	u, d, m := fresh(t, segments)
	for _, c := range calls {
		if err := c.do(t, u, m, ""); err != nil {
			t.Fatalf("%s answers %v", c.name, err)
		}
	}
	return d.Image(), m
}

// filled is a model whose last segment gets a page that leaves no room.
func filled(t *testing.T, m *model, at int) *model {
	t.Helper()
	must(t, m.append(pageNote(at, rising(at, (m.room()-1)*64-5))))
	if m.room() != 0 {
		t.Fatalf("%d sectors are left", m.room())
	}
	return m
}

func scenes(t *testing.T) []scene {
	var all []scene
	of := func(name string, m *model, c call) { all = append(all, scene{name, m.image(), m, c}) }
	old := modelOf(4, []note{sealNote(5), pageNote(0, "a"), pageNote(2, "b")}, []note{pageNote(1, fill('c', 200))}, []note{pageNote(3, "d"), pageNote(9, "e")})
	half := func(segments int) *model { return modelOf(segments, []note{sealNote(3), pageNote(0, rising(7, 2048))}) }

	of("a Write to a new unit", modelOf(2), writing(0, 7, "page"))
	of("a Write of a greatest page", modelOf(1), writing(0, 4095, rising(1, 2048)))
	of("a Write behind others", old.clone(), writing(5, 4, rising(3, 500)))
	of("a Write by a greater epoch", old.clone(), writing(8, 4, "f"))
	of("a Write that takes a segment", filled(t, half(2), 1), writing(3, 2, rising(2, 700)))
	of("a Write without room", filled(t, half(1), 1), writing(3, 2, rising(2, 700)))
	of("a Write where a page is", old.clone(), writing(5, 9, "f"))
	of("a Seal of a new unit", modelOf(2), sealing(1))
	of("a Seal behind others", old.clone(), sealing(anyEpoch))
	of("a Seal that takes a segment", filled(t, half(2), 1), sealing(300))
	of("a Seal of the same", old.clone(), sealing(5))
	of("a Trim of a new unit", modelOf(2), trimming(0, 4096))
	of("a Trim that drops nothing", old.clone(), trimming(7, 2))
	of("a Trim that drops the Seal's segment", modelOf(3, []note{sealNote(5)}, []note{pageNote(8, "a")}), trimming(6, 3))
	of("a Trim that drops all but the last one", old.clone(), trimming(5, 4))
	of("a Trim of all", old.clone(), trimming(anyEpoch, 10))
	of("a Trim that drops some", modelOf(5, []note{pageNote(1, "a")}, []note{trimNote(1, 4)}, []note{pageNote(5, "b")}, []note{pageNote(2, "c")}, []note{sealNote(6)}), trimming(6, 3))
	of("a Trim that takes a segment", filled(t, half(2), 1), trimming(3, 1))
	of("a Trim that takes a segment and drops the one ahead", filled(t, half(2), 1), trimming(3, 2))
	of("a Trim without room", filled(t, half(1), 1), trimming(3, 2))
	of("a Trim of what is trimmed", modelOf(2, []note{pageNote(1, "a")}, []note{trimNote(4, 0)}), trimming(0, 4))
	of("a Trim of segments left over", modelOf(3, []note{pageNote(1, "a")}, []note{pageNote(2, "b")}, []note{trimNote(4, 0)}), trimming(0, 5))

	// Segments that were dropped, and are taken again: what they held mustn't come back.
	image, m := played(t, 2,
		sealing(2), writing(2, 0, rising(1, 1800)), writing(2, 1, rising(2, 1800)), writing(2, 5, rising(3, 1800)),
		trimming(2, 3), sealing(4), writing(4, 6, rising(4, 1500)))
	all = append(all, scene{"a Write to a segment that was dropped", image, m, writing(4, 7, rising(5, 1200))})
	all = append(all, scene{"a Seal behind a dropped segment", image, m, sealing(9)})
	all = append(all, scene{"a Trim to a segment that was dropped", image, m, trimming(4, 7)})
	return all
}

// after does a scene's call with so much power, and answers whether that was enough.
func (s scene) after(t *testing.T, power int) (*disk.Device, bool) {
	t.Helper()
	d := device(t, s.image)
	u := open(t, d)
	m := s.model.clone()
	want, wrong := s.call.model(m)
	d.Stop(power)
	n, err := s.call.unit(u)
	if err == api.ErrDown {
		if n != 0 {
			t.Fatalf("power for %d: %s answers %d beside its error", power, s.call.name, n)
		}
		return d, false
	}
	if n != want || err != wrong {
		t.Fatalf("power for %d: %s answers %d, %v, not %d, %v", power, s.call.name, n, err, want, wrong)
	}
	return d, true
}

// goOn does calls behind a loss of power, with further ones between: what was lost mustn't come back by them.
func goOn(t *testing.T, d *disk.Device, m *model, what string) {
	t.Helper()
	_, trimmed, epoch := m.state()
	tail := m.tail()
	calls := []call{
		writing(epoch, min(tail, 4095), rising(11, 90)),
		sealing(min(epoch+1, anyEpoch)),
		trimming(anyEpoch, min(trimmed+1, 4096)),
		writing(anyEpoch, 7, rising(12, 1000)),
	}
	u := open(t, d)
	for _, c := range calls {
		c.do(t, u, m, what+": then ")
		d.Crash(0, -1, 0)
		u = open(t, d)
	}
	held(t, u, d, m, around, what+": gone on")
}

// P9.2: a loss of power at each write and flush of a call.

func TestLossOfPowerAtEachStep(t *testing.T) {
	for _, s := range scenes(t) {
		t.Run(s.name, func(t *testing.T) {
			t.Parallel()
			rows := outcomes(s.call, s.model)
			reached := 0
			power := 0
			for ; ; power++ {
				d, whole := s.after(t, power)
				if whole {
					break
				}
				for _, l := range losses(d.Pending()) {
					what := "power for " + strconv.Itoa(power) + ", " + l.name()
					d, _ := s.after(t, power)
					d.Crash(l.kept, l.torn, l.cut)
					i := found(t, d, rows, around)
					if i < 0 {
						t.Fatalf("%s: the unit is none of %d outcomes: %s", what, len(rows), seen(open(t, d), rows[len(rows)-1], around))
					}
					reached = max(reached, i)
					goOn(t, d, rows[i].clone(), what)
				}
			}
			// What was answered is durable, whatever is lost.
			for _, l := range losses(0) {
				d, _ := s.after(t, power)
				d.Crash(l.kept, l.torn, l.cut)
				if i := found(t, d, rows, all()); i != len(rows)-1 {
					t.Fatalf("what was answered is outcome %d of %d", i, len(rows))
				}
				goOn(t, d, rows[len(rows)-1].clone(), "all was done")
			}
			if len(rows) > 1 && power < 3 || reached != len(rows)-1 {
				t.Errorf("%d calls of the device are enough, and outcome %d of %d is the furthest one", power, reached, len(rows))
			}
		})
	}
}

// Each step that a call makes durable comes behind the one ahead of it, and is there when the next one begins.
func TestStepsAreDurableInOrder(t *testing.T) {
	for _, s := range scenes(t) {
		rows := outcomes(s.call, s.model)
		at := 0
		for power := 0; ; power++ {
			d, whole := s.after(t, power)
			d.Crash(0, -1, 0)
			i := found(t, d, rows, around)
			if i < at || i > at+1 {
				t.Fatalf("%s: with power for %d outcome %d comes behind %d", s.name, power, i, at)
			}
			at = i
			if whole {
				break
			}
		}
		if at != len(rows)-1 {
			t.Errorf("%s: all is done at outcome %d of %d", s.name, at, len(rows))
		}
	}
}

// P9.2 by its own words: what was answered is there behind many calls and many losses of power, wherever the records are.

// A promise is what was answered so far, and what was asked for without an answer.
type promise struct {
	pages          map[int]string
	asked          map[int][]string
	trimmed, epoch int
	to, by         int // the greatest that was asked for
}

// ask notes what is asked for.
func (p *promise) ask(c plea) {
	switch c.kind {
	case 1:
		p.asked[c.at] = append(p.asked[c.at], c.page)
	case 2:
		p.to = max(p.to, c.at)
	case 3:
		p.by = max(p.by, c.epoch)
	}
}

// answer notes what was answered.
func (p *promise) answer(c plea) {
	switch c.kind {
	case 1:
		p.pages[c.at] = c.page
	case 2:
		p.trimmed = max(p.trimmed, c.at)
	case 3:
		p.epoch = max(p.epoch, c.epoch)
	}
}

// A plea is a call as a note: a Write, a Trim or a Seal.
type plea note

// broken is what of a promise a device's unit doesn't hold.
func (p *promise) broken(t *testing.T, d *disk.Device) string {
	t.Helper()
	u := open(t, d)
	if u.Trimmed() < p.trimmed || u.Trimmed() > p.to {
		return "it is trimmed to " + strconv.Itoa(u.Trimmed()) + ", not " + strconv.Itoa(p.trimmed) + " to " + strconv.Itoa(p.to)
	}
	if u.Epoch() < p.epoch || u.Epoch() > p.by {
		return "its epoch is " + strconv.Itoa(u.Epoch()) + ", not " + strconv.Itoa(p.epoch) + " to " + strconv.Itoa(p.by)
	}
	for at := range 4096 {
		b, err := u.Read(anyEpoch, at)
		page, answered := p.pages[at]
		switch {
		case at < u.Trimmed():
			if err != api.ErrTrimmed {
				return "page " + strconv.Itoa(at) + " is trimmed, and answers " + text(err)
			}
		case answered:
			if err != nil || string(b) != page {
				return "page " + strconv.Itoa(at) + " isn't what was answered: " + text(err)
			}
		case err == nil:
			if !slices.Contains(p.asked[at], string(b)) {
				return "page " + strconv.Itoa(at) + " was never asked for"
			}
			// It is there now, and has to stay.
			p.pages[at] = string(b)
		case err != api.ErrUnwritten:
			return "page " + strconv.Itoa(at) + " answers " + text(err)
		}
	}
	p.trimmed, p.epoch = u.Trimmed(), u.Epoch()
	return ""
}

// throwLoss is a loss of power over so many pending writes.
func throwLoss(throw func(int) int, pending int) loss {
	kept := []uint64{0, math.MaxUint64, uint64(throw(1<<30)) * 0x100000001, 1 << throw(64)}[throw(4)]
	return loss{kept, throw(pending+2) - 1, throw(65)}
}

// throwPlea is a call that may be done, or not.
func throwPlea(throw func(int) int, p *promise, tail int) plea {
	switch k := throw(10); {
	case k < 6:
		size := 1 + throw([]int{10, 64, 300, 1200, 2048}[throw(5)])
		return plea(pageNote(max(min(tail+throw(4)-2, 4095), 0), rising(throw(256), size)))
	case k < 9:
		return plea(trimNote(max(min(p.trimmed+throw(6)-1, 4096), 0), 0))
	}
	return plea(sealNote(p.epoch + throw(3)))
}

func TestManyLossesOfPower(t *testing.T) {
	for seed := range uint64(48) {
		t.Run(strconv.Itoa(int(seed)), func(t *testing.T) {
			t.Parallel()
			throw := thrown(seed)
			segments := 1 + throw(4)
			d, err := disk.New(segments*64 + throw(64))
			must(t, err)
			p := &promise{pages: map[int]string{}, asked: map[int][]string{}}
			u := open(t, d)
			lost := 0
			for k := range 300 {
				c := throwPlea(throw, p, u.Tail())
				if throw(3) == 0 {
					d.Stop(throw([]int{4, 20, 140}[throw(3)]))
				}
				p.ask(c)
				switch c.kind {
				case 1:
					err = u.Write(u.Epoch(), c.at, []byte(c.page))
				case 2:
					err = u.Trim(u.Epoch(), c.at)
				case 3:
					_, err = u.Seal(c.epoch)
				}
				if err == nil {
					p.answer(c)
				}
				if err != api.ErrDown && !d.Down() && throw(5) > 0 {
					continue
				}
				l := throwLoss(throw, d.Pending())
				d.Crash(l.kept, l.torn, l.cut)
				lost++
				if wrong := p.broken(t, d); wrong != "" {
					t.Fatalf("call %d, %s: %s", k, l.name(), wrong)
				}
				u = open(t, d)
			}
			if segments > 1 && (lost < 20 || p.trimmed == 0 || p.epoch == 0) {
				t.Errorf("%d losses, trimmed to %d, epoch %d", lost, p.trimmed, p.epoch)
			}
		})
	}
}
