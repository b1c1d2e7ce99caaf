package unit_test

import (
	"bytes"
	"encoding/binary"
	"math"
	"slices"
	"strconv"
	"strings"
	"testing"

	"tidewater/api"
	"tidewater/disk"
	"tidewater/segs"
	"tidewater/unit"
)

// anyEpoch is an epoch by which no unit refuses a call.
const anyEpoch = 1 << 30

// must asks for no error.
func must(t *testing.T, err error) {
	t.Helper()
	if err != nil {
		t.Fatal(err)
	}
}

// fill is so many bytes of one value.
func fill(b byte, n int) string { return strings.Repeat(string([]byte{b}), n) }

// rising is so many bytes that differ from sector to sector and within each, the first ones also by a seed.
func rising(seed, n int) string {
	b := make([]byte, n)
	for i := range b {
		b[i] = byte(seed + i/64*31 + i%64)
	}
	return string(b)
}

// A note is a record as these tests write it out: 1 a page, 2 how far it is trimmed, 3 an epoch.
type note struct {
	kind, at, epoch int
	page            string
}

func pageNote(at int, b string) note { return note{kind: 1, at: at, page: b} }
func trimNote(to, epoch int) note    { return note{kind: 2, at: to, epoch: epoch} }
func sealNote(epoch int) note        { return note{kind: 3, epoch: epoch} }

// sectors is how many sectors a record of so many bytes has.
func sectors(size int) int { return 1 + (size+63)/64 }

// num is a number's bytes.
func num(n int) string {
	if n < 128 {
		return string([]byte{byte(n)})
	}
	return string([]byte{byte(128 + n%128)}) + num(n/128)
}

// bytes is a note's bytes.
func (n note) bytes() string {
	switch n.kind {
	case 1:
		return num(1) + num(n.at) + num(len(n.page)) + n.page
	case 2:
		return num(2) + num(n.at) + num(n.epoch)
	}
	return num(3) + num(n.epoch)
}

// A part is a segment in use.
type part struct {
	number int
	notes  []note
}

// A model is what a unit is to be: the notes on its device, from which all else is worked out each time.
type model struct {
	segments int // of the device
	parts    []part
}

// clone is a model of its own.
func (m *model) clone() *model {
	c := &model{segments: m.segments}
	for _, p := range m.parts {
		c.parts = append(c.parts, part{p.number, slices.Clone(p.notes)})
	}
	return c
}

// state is the pages that aren't trimmed, how far it is trimmed, and its epoch.
func (m *model) state() (map[int]string, int, int) {
	pages := map[int]string{}
	trimmed, epoch := 0, 0
	for _, p := range m.parts {
		for _, n := range p.notes {
			switch n.kind {
			case 1:
				if _, is := pages[n.at]; !is {
					pages[n.at] = n.page
				}
			case 2:
				trimmed, epoch = n.at, n.epoch
			case 3:
				epoch = n.epoch
			}
		}
	}
	for at := range pages {
		if at < trimmed {
			delete(pages, at)
		}
	}
	return pages, trimmed, epoch
}

// room is how many sectors are left of the last segment.
func (m *model) room() int {
	if len(m.parts) == 0 {
		return 0
	}
	left := 63
	for _, n := range m.parts[len(m.parts)-1].notes {
		left -= sectors(len(n.bytes()))
	}
	return left
}

// append has a further note.
func (m *model) append(n note) error {
	if m.room() < sectors(len(n.bytes())) {
		if len(m.parts) == m.segments {
			return api.ErrFull
		}
		number := 0
		if len(m.parts) > 0 {
			number = m.parts[len(m.parts)-1].number + 1
		}
		m.parts = append(m.parts, part{number: number})
	}
	p := &m.parts[len(m.parts)-1]
	p.notes = append(p.notes, n)
	return nil
}

// admit is what Write, Read and Trim ask first.
func admit(epoch, own, at, last int) error {
	switch {
	case epoch < own, epoch > 1<<30:
		return api.ErrSealed
	case at < 0, at > last:
		return api.ErrRange
	}
	return nil
}

func (m *model) write(epoch, at int, b string) error {
	pages, trimmed, own := m.state()
	_, is := pages[at]
	switch err := admit(epoch, own, at, 4095); {
	case err != nil:
		return err
	case b == "", len(b) > 2048:
		return api.ErrLong
	case at < trimmed:
		return api.ErrTrimmed
	case is:
		return api.ErrWritten
	}
	return m.append(pageNote(at, b))
}

func (m *model) read(epoch, at int) (string, error) {
	pages, trimmed, own := m.state()
	b, is := pages[at]
	switch err := admit(epoch, own, at, 4095); {
	case err != nil:
		return "", err
	case at < trimmed:
		return "", api.ErrTrimmed
	case !is:
		return "", api.ErrUnwritten
	}
	return b, nil
}

func (m *model) trim(epoch, to int) error {
	_, trimmed, own := m.state()
	if err := admit(epoch, own, to, 4096); err != nil || to <= trimmed {
		return err
	}
	if err := m.append(trimNote(to, own)); err != nil {
		return err
	}
	for len(m.parts) > 1 && m.parts[0].below(to) {
		m.parts = m.parts[1:]
	}
	return nil
}

// below tells whether each page in a segment is below an address.
func (p part) below(to int) bool {
	return !slices.ContainsFunc(p.notes, func(n note) bool { return n.kind == 1 && n.at >= to })
}

func (m *model) seal(epoch int) (int, error) {
	_, _, own := m.state()
	switch {
	case epoch < 0, epoch > 1<<30:
		return 0, api.ErrEpoch
	case epoch < own:
		return 0, api.ErrSealed
	case epoch > own:
		if err := m.append(sealNote(epoch)); err != nil {
			return 0, err
		}
	}
	return m.tail(), nil
}

func (m *model) tail() int {
	pages, tail, _ := m.state()
	for at := range pages {
		tail = max(tail, at+1)
	}
	return tail
}

// image is a device's bytes that has a model's notes: its segments stand as they are told.
func (m *model) image() []byte {
	image := make([]byte, m.segments*4096)
	for i, p := range m.parts {
		b := image[i*4096 : i*4096+4096]
		binary.LittleEndian.PutUint64(b, uint64(p.number))
		b[63] = 1
		b = b[64:]
		for _, n := range p.notes {
			r := n.bytes()
			binary.LittleEndian.PutUint16(b, uint16(len(r)))
			b[63] = 1
			copy(b[64:], r)
			b = b[64*sectors(len(r)):]
		}
	}
	return image
}

// modelOf is a model of so many segments, of which the first ones have these notes.
func modelOf(segments int, parts ...[]note) *model {
	m := &model{segments: segments}
	for i, notes := range parts {
		m.parts = append(m.parts, part{i, notes})
	}
	return m
}

// device is a device of an image.
func device(t *testing.T, image []byte) *disk.Device {
	t.Helper()
	d, err := disk.From(image)
	must(t, err)
	return d
}

// open opens a device's unit.
func open(t *testing.T, d *disk.Device) *unit.Unit {
	t.Helper()
	u, err := unit.Open(d)
	if err != nil || u == nil {
		t.Fatalf("Open answers %v, %v", u, err)
	}
	return u
}

// around are addresses that are asked of each unit.
var around = []int{math.MinInt, -1, 0, 1, 2, 3, 4, 5, 6, 7, 8, 9, 10, 100, 4094, 4095, 4096, 4097, math.MaxInt}

// all are around, and every address.
func all() []int {
	list := slices.Clone(around)
	for at := range 4096 {
		list = append(list, at)
	}
	return list
}

// seen holds what a unit tells of itself and of addresses against a model, but how many segments are free: what is wrong.
func seen(u *unit.Unit, m *model, addresses []int) string {
	pages, trimmed, epoch := m.state()
	if u.Epoch() != epoch || u.Trimmed() != trimmed || u.Tail() != m.tail() {
		return "epoch " + strconv.Itoa(u.Epoch()) + ", trimmed " + strconv.Itoa(u.Trimmed()) + ", tail " + strconv.Itoa(u.Tail()) + ", not " + strconv.Itoa(epoch) + ", " + strconv.Itoa(trimmed) + ", " + strconv.Itoa(m.tail())
	}
	for _, at := range addresses {
		want, is := pages[at]
		if u.Has(at) != is {
			return "Has(" + strconv.Itoa(at) + ") is " + strconv.FormatBool(!is)
		}
		var wrong error
		switch {
		case at < 0, at > 4095:
			wrong = api.ErrRange
		case at < trimmed:
			wrong = api.ErrTrimmed
		case !is:
			wrong = api.ErrUnwritten
		}
		b, err := u.Read(anyEpoch, at)
		if string(b) != want || err != wrong || wrong != nil && b != nil {
			return "Read of " + strconv.Itoa(at) + " answers " + strconv.Itoa(len(b)) + " bytes, " + text(err) + ", not " + strconv.Itoa(len(want)) + ", " + text(wrong)
		}
	}
	return ""
}

// text is an error's text.
func text(err error) string {
	if err == nil {
		return "no error"
	}
	return err.Error()
}

// stored holds the durable bytes of a device against a model: what is wrong.
func stored(d *disk.Device, m *model) string {
	if d.Pending() != 0 {
		return strconv.Itoa(d.Pending()) + " writes are pending"
	}
	durable, err := disk.From(d.Image())
	if err != nil {
		return err.Error()
	}
	s, err := segs.Open(durable)
	if err != nil {
		return err.Error()
	}
	var numbers []int
	for _, p := range m.parts {
		numbers = append(numbers, p.number)
	}
	if !slices.Equal(s.Segments(), numbers) {
		return "segments " + list(s.Segments()) + ", not " + list(numbers)
	}
	for _, p := range m.parts {
		records := s.Records(p.number)
		if len(records) != len(p.notes) {
			return "segment " + strconv.Itoa(p.number) + " has " + strconv.Itoa(len(records)) + " records, not " + strconv.Itoa(len(p.notes))
		}
		for i, n := range p.notes {
			if string(records[i]) != n.bytes() {
				return "record " + strconv.Itoa(i) + " of segment " + strconv.Itoa(p.number) + " is " + strconv.Quote(string(records[i])) + ", not " + strconv.Quote(n.bytes())
			}
		}
	}
	return ""
}

// list is numbers as a text.
func list(numbers []int) string {
	var b bytes.Buffer
	for _, n := range numbers {
		b.WriteString(" " + strconv.Itoa(n))
	}
	return "[" + b.String() + " ]"
}

// held holds a unit and its device against a model.
func held(t *testing.T, u *unit.Unit, d *disk.Device, m *model, addresses []int, what string) {
	t.Helper()
	if wrong := seen(u, m, addresses); wrong != "" {
		t.Fatalf("%s: %s", what, wrong)
	}
	if want := m.segments - len(m.parts); u.Free() != want {
		t.Fatalf("%s: %d segments are free, not %d", what, u.Free(), want)
	}
	if wrong := stored(d, m); wrong != "" {
		t.Fatalf("%s: on the device %s", what, wrong)
	}
}

// A call is one that may write, of a unit and of its model.
type call struct {
	name  string
	unit  func(u *unit.Unit) (int, error)
	model func(m *model) (int, error)
}

func writing(epoch, at int, b string) call {
	return call{
		"Write(" + strconv.Itoa(epoch) + ", " + strconv.Itoa(at) + ", " + strconv.Itoa(len(b)) + " bytes)",
		func(u *unit.Unit) (int, error) { return 0, u.Write(epoch, at, []byte(b)) },
		func(m *model) (int, error) { return 0, m.write(epoch, at, b) },
	}
}

func trimming(epoch, to int) call {
	return call{
		"Trim(" + strconv.Itoa(epoch) + ", " + strconv.Itoa(to) + ")",
		func(u *unit.Unit) (int, error) { return 0, u.Trim(epoch, to) },
		func(m *model) (int, error) { return 0, m.trim(epoch, to) },
	}
}

func sealing(epoch int) call {
	return call{
		"Seal(" + strconv.Itoa(epoch) + ")",
		func(u *unit.Unit) (int, error) { return u.Seal(epoch) },
		func(m *model) (int, error) { return m.seal(epoch) },
	}
}

// do does a call to a unit and to its model, and holds the answers against each other: its error.
func (c call) do(t *testing.T, u *unit.Unit, m *model, what string) error {
	t.Helper()
	want, wrong := c.model(m)
	if n, err := c.unit(u); n != want || err != wrong {
		t.Fatalf("%s%s answers %d, %v, not %d, %v", what, c.name, n, err, want, wrong)
	}
	return wrong
}
