package segs_test

import (
	"bytes"
	"encoding/binary"
	"math"
	"slices"
	"strconv"
	"strings"
	"testing"

	"tidewater/api"
	"tidewater/disk"
	"tidewater/segs"
)

// must asks for no error.
func must(t *testing.T, err error) {
	t.Helper()
	if err != nil {
		t.Fatal(err)
	}
}

// fill is so many bytes of one value.
func fill(b byte, n int) []byte { return bytes.Repeat([]byte{b}, n) }

// rising is so many bytes that differ from sector to sector and within each.
func rising(n int) []byte {
	b := make([]byte, n)
	for i := range b {
		b[i] = byte(1 + i/64*31 + i%64)
	}
	return b
}

// head is a head of a segment or of a record, written out by its first bytes and its mark.
func head(mark byte, first ...byte) []byte {
	b := make([]byte, 64)
	copy(b, first)
	b[63] = mark
	return b
}

// lay puts bytes into an image, from a sector on.
func lay(image []byte, at int, b []byte) { copy(image[at*64:], b) }

// device is a device of an image.
func device(t *testing.T, image []byte) *disk.Device {
	t.Helper()
	d, err := disk.From(image)
	must(t, err)
	return d
}

// open opens a device's store.
func open(t *testing.T, d *disk.Device) *segs.Store {
	t.Helper()
	s, err := segs.Open(d)
	if err != nil || s == nil {
		t.Fatalf("Open answers %v, %v", s, err)
	}
	return s
}

// A part is a segment in use, as a store tells of it.
type part struct {
	number  int
	records [][]byte
}

// text is all that parts are, so that they can be held against each other.
func text(parts []part, free int) string {
	var b strings.Builder
	for _, p := range parts {
		b.WriteString("[" + strconv.Itoa(p.number))
		for _, r := range p.records {
			b.WriteString(" " + strconv.Itoa(len(r)) + ":")
			b.Write(r)
		}
		b.WriteString("]")
	}
	b.WriteString(" free " + strconv.Itoa(free))
	return b.String()
}

// brief is a text that can be read in a message.
func brief(text string) string {
	if len(text) > 400 {
		text = text[:400] + " .."
	}
	return strconv.Quote(text)
}

// told is all that a store tells, as a text.
func told(t *testing.T, s *segs.Store) string {
	t.Helper()
	numbers := s.Segments()
	var parts []part
	last := -1
	for _, n := range numbers {
		parts = append(parts, part{n, s.Records(n)})
		last = n
	}
	if s.Last() != last {
		t.Fatalf("Last answers %d of %v", s.Last(), numbers)
	}
	return text(parts, s.Free())
}

// A place is a segment in use as an image has it.
type place struct {
	part
	first, end int // its first sector in the image, and the sector behind its records
}

// places are an image's segments in use, by rising numbers.
func places(image []byte) []place {
	var all []place
	for i := range len(image) / 4096 {
		b := image[i*4096 : i*4096+4096]
		if b[63] != 1 {
			continue
		}
		p := place{part: part{number: int(binary.LittleEndian.Uint64(b))}, first: i * 64}
		at := 1
		for at < 64 && b[at*64+63] == 1 {
			size := int(binary.LittleEndian.Uint16(b[at*64:]))
			next := at + 1 + (size+63)/64
			if size == 0 || next > 64 {
				break
			}
			p.records = append(p.records, b[at*64+64:at*64+64+size])
			at = next
		}
		p.end = p.first + at
		all = append(all, p)
	}
	slices.SortStableFunc(all, func(a, b place) int {
		if a.number < b.number {
			return -1
		}
		return 1
	})
	return all
}

// seen is what a store is to tell of an image.
func seen(image []byte) string {
	var parts []part
	for _, p := range places(image) {
		parts = append(parts, p.part)
	}
	return text(parts, len(image)/4096-len(parts))
}

// take takes an image's first free segment, as Append is to, and answers its first sector.
func take(image []byte, number int) (int, error) {
	for i := range len(image) / 4096 {
		b := image[i*4096 : i*4096+4096]
		if b[63] != 1 {
			clear(b)
			binary.LittleEndian.PutUint64(b, uint64(number))
			b[63] = 1
			return i * 64, nil
		}
	}
	return 0, api.ErrFull
}

// appended does to an image what Append is to do.
func appended(image, b []byte) (int, error) {
	if len(b) == 0 || len(b) > 3968 {
		return 0, api.ErrForm
	}
	sectors := 1 + (len(b)+63)/64
	all := places(image)
	if len(all) == 0 || all[len(all)-1].end+sectors > all[len(all)-1].first+64 {
		number := 0
		if len(all) > 0 {
			number = all[len(all)-1].number + 1
		}
		if _, err := take(image, number); err != nil {
			return 0, err
		}
		all = places(image)
	}
	p := all[len(all)-1]
	clear(image[p.end*64 : min(p.end+sectors+1, p.first+64)*64])
	binary.LittleEndian.PutUint16(image[p.end*64:], uint16(len(b)))
	image[p.end*64+63] = 1
	copy(image[p.end*64+64:], b)
	return p.number, nil
}

// dropped does to an image what Drop is to do.
func dropped(image []byte, number int) error {
	all := places(image)
	i := slices.IndexFunc(all, func(p place) bool { return p.number == number })
	if i < 0 {
		return api.ErrNone
	}
	if i == len(all)-1 {
		return api.ErrState
	}
	image[all[i].first*64+63] = 2
	return nil
}

// held holds a store and its device against an image.
func held(t *testing.T, s *segs.Store, d *disk.Device, image []byte, what string) {
	t.Helper()
	if got, want := told(t, s), seen(image); got != want {
		t.Fatalf("%s: the store is %s, not %s", what, brief(got), brief(want))
	}
	if d.Pending() != 0 {
		t.Fatalf("%s: %d writes are pending", what, d.Pending())
	}
	if got := d.Image(); !bytes.Equal(got, image) {
		for i := range got {
			if got[i] != image[i] {
				t.Fatalf("%s: byte %d of sector %d is %d, not %d", what, i%64, i/64, got[i], image[i])
			}
		}
	}
}

// tryAppend appends to a store and to an image, and holds both against each other.
func tryAppend(t *testing.T, s *segs.Store, d *disk.Device, image, b []byte) {
	t.Helper()
	what := "Append of " + strconv.Itoa(len(b)) + " bytes"
	want, wrong := appended(image, b)
	if n, err := s.Append(b); n != want || err != wrong {
		t.Fatalf("%s answers %d, %v, not %d, %v", what, n, err, want, wrong)
	}
	held(t, s, d, image, what)
}

// tryDrop drops a segment of a store and of an image, and holds both against each other.
func tryDrop(t *testing.T, s *segs.Store, d *disk.Device, image []byte, number int) {
	t.Helper()
	what := "Drop of " + strconv.Itoa(number)
	want := dropped(image, number)
	if err := s.Drop(number); err != want {
		t.Fatalf("%s answers %v, not %v", what, err, want)
	}
	held(t, s, d, image, what)
}

// P8.1: Open.

func TestOpenOfADeviceThatIsShort(t *testing.T) {
	for n := 1; n < 64; n++ {
		d, err := disk.New(n)
		must(t, err)
		if s, err := segs.Open(d); err != api.ErrShort || s != nil {
			t.Errorf("Open of %d sectors: %v, %v", n, s, err)
		}
		// A head makes no segment of too few sectors.
		must(t, d.Write(0, head(1, 5)))
		must(t, d.Flush())
		if s, err := segs.Open(d); err != api.ErrShort || s != nil {
			t.Errorf("Open of %d sectors with a head: %v, %v", n, s, err)
		}
	}
}

func TestOpenOfNoughts(t *testing.T) {
	for _, n := range []int{64, 65, 127, 128, 129, 191, 192, 4032, 4095, 4096} {
		d, err := disk.New(n)
		must(t, err)
		s := open(t, d)
		if len(s.Segments()) != 0 || s.Last() != -1 || s.Free() != n/64 {
			t.Errorf("%d sectors: segments %v, the last one %d, %d free", n, s.Segments(), s.Last(), s.Free())
		}
		for _, k := range []int{-1, 0, 1, math.MinInt, math.MaxInt} {
			if len(s.Records(k)) != 0 || s.Drop(k) != api.ErrNone {
				t.Errorf("%d sectors: segment %d is there", n, k)
			}
		}
		held(t, s, d, make([]byte, n*64), "Open")
	}
}

func TestOpenChangesNothing(t *testing.T) {
	image := rising(5 * 4096)
	lay(image, 64, head(1, 7))
	lay(image, 128, head(2, 8))
	d := device(t, image)
	d.Stop(0)
	s := open(t, d)
	held(t, s, d, image, "Open")
	if !slices.Equal(s.Segments(), []int{7}) {
		t.Errorf("the segments are %v", s.Segments())
	}
}

func TestMarksOfSegments(t *testing.T) {
	for mark := range 256 {
		image := make([]byte, 2*4096)
		lay(image, 0, head(byte(mark), 9))
		lay(image, 1, head(1, 2))
		lay(image, 2, []byte("ab"))
		s := open(t, device(t, image))
		if mark == 1 {
			if !slices.Equal(s.Segments(), []int{9}) || s.Last() != 9 || s.Free() != 1 || len(s.Records(9)) != 1 || string(s.Records(9)[0]) != "ab" {
				t.Errorf("mark 1: %s", brief(told(t, s)))
			}
		} else if len(s.Segments()) != 0 || s.Last() != -1 || s.Free() != 2 || len(s.Records(9)) != 0 || s.Drop(9) != api.ErrNone {
			t.Errorf("mark %d: %s", mark, brief(told(t, s)))
		}
	}
}

func TestNumbersOfSegments(t *testing.T) {
	for _, c := range []struct {
		head, next []byte
		number     int
	}{
		{[]byte{0}, []byte{1}, 0},
		{[]byte{1}, []byte{2}, 1},
		{[]byte{255}, []byte{0, 1}, 255},
		{[]byte{1, 2}, []byte{2, 2}, 0x201},
		{[]byte{255, 255}, []byte{0, 0, 1}, 65535},
		{[]byte{1, 2, 3, 4}, []byte{2, 2, 3, 4}, 0x04030201},
		{[]byte{255, 255, 255, 255}, []byte{0, 0, 0, 0, 1}, 1<<32 - 1},
		{[]byte{1, 2, 3, 4, 5, 6, 7, 8}, []byte{2, 2, 3, 4, 5, 6, 7, 8}, 0x0807060504030201},
		{[]byte{1, 2, 3, 4, 5, 6, 7, 8, 9, 10}, []byte{2, 2, 3, 4, 5, 6, 7, 8}, 0x0807060504030201},
		{[]byte{254, 255, 255, 255, 255, 255, 255, 127}, []byte{255, 255, 255, 255, 255, 255, 255, 127}, math.MaxInt - 1},
	} {
		image := make([]byte, 2*4096)
		lay(image, 64, head(1, c.head...))
		d := device(t, image)
		s := open(t, d)
		if !slices.Equal(s.Segments(), []int{c.number}) || s.Last() != c.number {
			t.Fatalf("head % x: segments %v, the last one %d", c.head, s.Segments(), s.Last())
		}
		for _, size := range []int{1000, 3000} {
			tryAppend(t, s, d, image, rising(size))
		}
		if n, err := s.Append(rising(3000)); n != 0 || err != api.ErrFull {
			t.Fatalf("behind head % x: %d, %v", c.head, n, err)
		}
		if b, err := d.Read(0); err != nil || !bytes.Equal(b, head(1, c.next...)) {
			t.Errorf("behind head % x: % x, %v", c.head, b, err)
		}
		if !slices.Equal(s.Segments(), []int{c.number, c.number + 1}) {
			t.Errorf("behind head % x: %v", c.head, s.Segments())
		}
	}
}

// No number is above the greatest one: all that is asked is that calls end.
func TestGreatestNumber(t *testing.T) {
	image := make([]byte, 3*4096)
	lay(image, 0, head(1, 255, 255, 255, 255, 255, 255, 255, 127))
	s := open(t, device(t, image))
	if s.Last() != math.MaxInt {
		t.Fatalf("the last one is %d", s.Last())
	}
	for range 9 {
		s.Append(rising(3000))
		for _, n := range s.Segments() {
			s.Records(n)
		}
		s.Free()
	}
}

func TestSegmentsStandInAnyOrder(t *testing.T) {
	for _, numbers := range [][]byte{{1, 2, 3}, {1, 3, 2}, {2, 1, 3}, {2, 3, 1}, {3, 1, 2}, {3, 2, 1}} {
		image := make([]byte, 4*4096)
		for i, n := range numbers {
			lay(image, i*64, head(1, n*50))
			lay(image, i*64+1, head(1, n))
			lay(image, i*64+2, fill('a', int(n)))
		}
		d := device(t, image)
		s := open(t, d)
		if !slices.Equal(s.Segments(), []int{50, 100, 150}) || s.Last() != 150 || s.Free() != 1 {
			t.Fatalf("%v: %v, the last one %d, %d free", numbers, s.Segments(), s.Last(), s.Free())
		}
		for n := 1; n <= 3; n++ {
			if l := s.Records(n * 50); len(l) != 1 || !bytes.Equal(l[0], fill('a', n)) {
				t.Fatalf("%v: records of %d: %q", numbers, n*50, l)
			}
		}
		tryAppend(t, s, d, image, []byte("b"))
		tryDrop(t, s, d, image, 150)
		tryDrop(t, s, d, image, 50)
		tryAppend(t, s, d, image, rising(3968))
		tryDrop(t, s, d, image, 150)
		held(t, open(t, d), d, image, "Open")
	}
}

// What stands at a sector of a segment, alone or behind a record, and whether it begins one.
func TestHeadsOfRecords(t *testing.T) {
	for _, c := range []struct {
		head   []byte
		at     int
		record bool
	}{
		{head(1, 1), 1, true},
		{head(1, 64), 1, true},
		{head(1, 0, 1), 1, true},
		{head(1, 0x80, 0x0f), 1, true},
		{head(1, 0x81, 0x0f), 1, false},
		{head(1, 0x80, 0x10), 1, false},
		{head(1, 255, 255), 1, false},
		{head(1, 0, 0), 1, false},
		{head(1, 0, 0, 1), 1, false},
		{head(0, 1), 1, false},
		{head(2, 1), 1, false},
		{head(3, 1), 1, false},
		{head(129, 1), 1, false},
		{head(255, 1), 1, false},
		{head(1, 0x00, 0x0f), 3, true},
		{head(1, 0x01, 0x0f), 3, false},
		{head(1, 128), 61, true},
		{head(1, 129), 61, false},
		{head(1, 64), 62, true},
		{head(1, 65), 62, false},
		{head(1, 1), 62, true},
		{head(1, 1), 63, false},
		{head(1, 64), 63, false},
		{append(append([]byte{5, 0}, fill(9, 61)...), 1), 1, true},
	} {
		image := rising(3 * 4096)
		lay(image, 64, head(1))
		want := 0
		if c.at > 1 {
			size := (c.at - 2) * 64
			lay(image, 65, head(1, byte(size), byte(size>>8)))
			want = 1
		}
		lay(image, 64+c.at, c.head)
		if c.record {
			want++
			size := int(c.head[0]) + 256*int(c.head[1])
			if end := c.at + 1 + (size+63)/64; end < 64 {
				lay(image, 64+end, head(0))
			}
		}
		d := device(t, image)
		s := open(t, d)
		l := s.Records(0)
		if len(l) != want {
			t.Fatalf("head % x at %d: %d records, not %d", c.head[:2], c.at, len(l), want)
		}
		if c.record {
			size := int(c.head[0]) + 256*int(c.head[1])
			from := (64 + c.at + 1) * 64
			if !bytes.Equal(l[want-1], image[from:from+size]) {
				t.Fatalf("head % x at %d: %d bytes, not the right ones", c.head[:2], c.at, len(l[want-1]))
			}
		}
		held(t, s, d, image, "Open")
		tryAppend(t, s, d, image, rising(50))
		held(t, open(t, d), d, image, "Open")
	}
}

func TestRecordsEndWhereNoneIs(t *testing.T) {
	for gap := range 6 {
		image := make([]byte, 4096)
		lay(image, 0, head(1, 3))
		for k := range 6 {
			if k != gap {
				lay(image, 1+2*k, head(1, byte(k+1)))
			}
			lay(image, 2+2*k, fill(byte('a'+k), k+1))
		}
		d := device(t, image)
		s := open(t, d)
		l := s.Records(3)
		if len(l) != gap {
			t.Fatalf("a gap at %d: %q", gap, l)
		}
		for k := range gap {
			if !bytes.Equal(l[k], fill(byte('a'+k), k+1)) {
				t.Fatalf("a gap at %d: record %d is %q", gap, k, l[k])
			}
		}
		// What stood behind the gap isn't told again, though some of it isn't written over.
		tryAppend(t, s, d, image, []byte("new"))
		if l := open(t, d).Records(3); len(l) != gap+1 || string(l[gap]) != "new" {
			t.Fatalf("a gap at %d: behind an Append %q", gap, l)
		}
	}
}

func TestOpenSeesWhatIsPending(t *testing.T) {
	image := make([]byte, 2*4096)
	must2(t)(appended(image, []byte("ab")))
	must2(t)(appended(image, rising(3900)))
	d, err := disk.New(128)
	must(t, err)
	for i := range 128 {
		must(t, d.Write(i, image[i*64:i*64+64]))
	}
	s := open(t, d)
	if told(t, s) != seen(image) || d.Pending() != 128 {
		t.Fatalf("pending writes are %s", brief(told(t, s)))
	}
	// What covers a durable thing counts, too.
	must(t, d.Flush())
	must(t, d.Write(0, head(2)))
	s = open(t, d)
	if !slices.Equal(s.Segments(), []int{1}) || s.Free() != 1 {
		t.Errorf("a pending mark isn't seen: %s", brief(told(t, s)))
	}
	d.Crash(0, -1, 0)
	if s = open(t, d); told(t, s) != seen(image) {
		t.Errorf("a lost mark is seen: %s", brief(told(t, s)))
	}
}

// must2 asks for no error of a call that answers a number, too.
func must2(t *testing.T) func(int, error) {
	t.Helper()
	return func(_ int, err error) {
		t.Helper()
		must(t, err)
	}
}

func TestLeftOverSectors(t *testing.T) {
	for _, over := range []int{1, 2, 62, 63} {
		image := fill(1, 2*4096+over*64)
		clear(image[:2*4096])
		d := device(t, image)
		s := open(t, d)
		if len(s.Segments()) != 0 || s.Free() != 2 {
			t.Fatalf("%d sectors are over: %s", over, brief(told(t, s)))
		}
		for _, size := range []int{3968, 3904, 1, 1} {
			tryAppend(t, s, d, image, rising(size))
		}
		if s.Free() != 0 {
			t.Errorf("%d sectors are over: %d free", over, s.Free())
		}
	}
}

// P8.1: Append.

func TestAppendOfEachSize(t *testing.T) {
	for size := 1; size <= 3968; size++ {
		image := make([]byte, 4096)
		d := device(t, image)
		s := open(t, d)
		tryAppend(t, s, d, image, rising(size))
		if l := s.Records(0); len(l) != 1 || !bytes.Equal(l[0], rising(size)) {
			t.Fatalf("%d bytes are told as %d records", size, len(l))
		}
	}
}

func TestAppendAsBytes(t *testing.T) {
	image := fill(7, 2*4096)
	d := device(t, image)
	s := open(t, d)
	for k, b := range [][]byte{rising(300), []byte("x")} {
		if n, err := s.Append(b); n != 0 || err != nil {
			t.Fatalf("Append %d answers %d, %v", k, n, err)
		}
	}
	want := fill(7, 2*4096)
	clear(want[:4096])
	lay(want, 0, head(1))
	lay(want, 1, head(1, 44, 1))
	lay(want, 2, rising(300))
	lay(want, 7, head(1, 1))
	lay(want, 8, []byte("x"))
	if !bytes.Equal(d.Image(), want) {
		t.Errorf("the image is % x", d.Image()[:10*64])
	}
}

func TestAppendOfWrongSizes(t *testing.T) {
	wrong := [][]byte{nil, {}, rising(3969), rising(3970), rising(4032), rising(4096), rising(1 << 17)}
	for segments := 1; segments <= 3; segments++ {
		image := make([]byte, segments*4096)
		d := device(t, image)
		s := open(t, d)
		for range segments + 1 {
			for _, b := range wrong {
				if n, err := s.Append(b); n != 0 || err != api.ErrForm {
					t.Fatalf("Append of %d bytes answers %d, %v", len(b), n, err)
				}
			}
			held(t, s, d, image, "wrong sizes")
			tryAppend(t, s, d, image, rising(3968))
		}
		d.Stop(0)
		if n, err := s.Append(nil); n != 0 || err != api.ErrForm {
			t.Fatalf("when the device is down: %d, %v", n, err)
		}
	}
}

// Whether a record fits: behind records of so many sectors there is just room, or not.
func TestAppendFits(t *testing.T) {
	for taken := 2; taken <= 63; taken++ {
		for _, size := range []int{1, 63, 64, 65, (62-taken)*64 - 1, (62 - taken) * 64, (62-taken)*64 + 1, (63-taken)*64 + 1} {
			if size < 1 {
				continue
			}
			image := make([]byte, 3*4096)
			d := device(t, image)
			s := open(t, d)
			must2(t)(appended(image, rising(taken*64-64)))
			must2(t)(s.Append(rising(taken*64 - 64)))
			number := 0
			if taken+1+(size+63)/64 > 63 {
				number = 1
			}
			if n, err := s.Append(rising(size)); n != number || err != nil {
				t.Fatalf("%d bytes behind %d sectors: %d, %v", size, taken, n, err)
			}
			must2(t)(appended(image, rising(size)))
			held(t, s, d, image, strconv.Itoa(size)+" bytes behind "+strconv.Itoa(taken)+" sectors")
			tryAppend(t, s, d, image, rising(3968))
			tryAppend(t, s, d, image, rising(2))
			held(t, open(t, d), d, image, "Open")
		}
	}
}

func TestAppendTillItIsFull(t *testing.T) {
	for _, size := range []int{1, 64, 65, 1000, 1984, 1985, 3968} {
		image := make([]byte, 4*4096+640)
		d := device(t, image)
		s := open(t, d)
		each := 63 / (1 + (size+63)/64)
		for k := range 4 * each {
			if n, err := s.Append(rising(size)); n != k/each || err != nil {
				t.Fatalf("record %d of %d bytes: %d, %v", k, size, n, err)
			}
			must2(t)(appended(image, rising(size)))
		}
		held(t, s, d, image, "as much as fits")
		for range 3 {
			if n, err := s.Append(rising(size)); n != 0 || err != api.ErrFull {
				t.Fatalf("a record of %d bytes too many: %d, %v", size, n, err)
			}
			held(t, s, d, image, "a record too many")
		}
		// Elder segments' room doesn't count, nor does a full store refuse what fits.
		for room := s.Free(); room < 3; room++ {
			tryAppend(t, s, d, image, rising(1))
		}
		if s.Free() != 0 || !slices.Equal(s.Segments(), []int{0, 1, 2, 3}) {
			t.Fatalf("%d free of %v", s.Free(), s.Segments())
		}
	}
}

func TestTheFirstFreeSegmentIsTaken(t *testing.T) {
	// Each row: which places are in use, and with which number.
	for _, c := range []struct {
		places map[int]byte
		order  []int
	}{
		{nil, []int{0, 1, 2, 3}},
		{map[int]byte{0: 4}, []int{1, 2, 3}},
		{map[int]byte{3: 4}, []int{0, 1, 2}},
		{map[int]byte{1: 4}, []int{0, 2, 3}},
		{map[int]byte{1: 4, 2: 9}, []int{0, 3}},
		{map[int]byte{0: 9, 2: 4}, []int{1, 3}},
	} {
		image := fill(3, 4*4096)
		number := 0
		for at, n := range c.places {
			lay(image, at*64, head(1, n))
			lay(image, at*64+1, head(1, 0x80, 0x0f))
			number = max(number, int(n)+1)
		}
		d := device(t, image)
		s := open(t, d)
		for k, at := range c.order {
			tryAppend(t, s, d, image, rising(3968))
			if b, _ := d.Read(at * 64); !bytes.Equal(b, head(1, byte(number+k))) {
				t.Fatalf("%v: taken as %d: sector %d is % x", c.places, k, at*64, b)
			}
		}
		if n, err := s.Append([]byte("a")); n != 0 || err != api.ErrFull {
			t.Fatalf("%v: when none is free: %d, %v", c.places, n, err)
		}
	}
}

// A record that ends where its segment does is followed by another segment's head, or by no sector.
func TestNothingIsWrittenBehindASegment(t *testing.T) {
	for _, size := range []int{3905, 3968} {
		image := make([]byte, 2*4096)
		lay(image, 64, head(1, 8))
		lay(image, 65, head(1, 0x80, 0x0f))
		d := device(t, image)
		s := open(t, d)
		tryAppend(t, s, d, image, rising(size))
		if !slices.Equal(s.Segments(), []int{8, 9}) || len(s.Records(8)) != 1 {
			t.Fatalf("%d bytes: %v", size, s.Segments())
		}
		tryDrop(t, s, d, image, 8)
		tryAppend(t, s, d, image, rising(size))
		tryDrop(t, s, d, image, 9)
		tryAppend(t, s, d, image, rising(size))
		held(t, open(t, d), d, image, "Open")
	}
}

// P8.1: Drop.

func TestDropOfWrongSegments(t *testing.T) {
	image := make([]byte, 4*4096)
	d := device(t, image)
	s := open(t, d)
	for range 3 {
		tryAppend(t, s, d, image, rising(3000))
	}
	for _, n := range []int{-1, 3, 4, 256, 1 << 32, math.MinInt, math.MaxInt} {
		if err := s.Drop(n); err != api.ErrNone || len(s.Records(n)) != 0 {
			t.Errorf("Drop of %d answers %v", n, err)
		}
	}
	if err := s.Drop(2); err != api.ErrState {
		t.Errorf("Drop of the last one answers %v", err)
	}
	held(t, s, d, image, "wrong Drops")
	d.Stop(0)
	if err := s.Drop(9); err != api.ErrNone {
		t.Errorf("when the device is down, Drop of none answers %v", err)
	}
	if err := s.Drop(2); err != api.ErrState {
		t.Errorf("when the device is down, Drop of the last one answers %v", err)
	}
}

func TestDrop(t *testing.T) {
	image := make([]byte, 4*4096)
	d := device(t, image)
	s := open(t, d)
	for range 4 {
		tryAppend(t, s, d, image, rising(3000))
	}
	for k, n := range []int{1, 0, 2} {
		tryDrop(t, s, d, image, n)
		if b, _ := d.Read(n * 64); !bytes.Equal(b, head(2, byte(n))) {
			t.Fatalf("the head of %d is % x", n, b)
		}
		if s.Free() != k+1 || slices.Contains(s.Segments(), n) || len(s.Records(n)) != 0 {
			t.Fatalf("behind Drop of %d: %d free, %v", n, s.Free(), s.Segments())
		}
		if err := s.Drop(n); err != api.ErrNone {
			t.Fatalf("a second Drop of %d answers %v", n, err)
		}
		held(t, open(t, d), d, image, "Open")
	}
	tryDrop(t, s, d, image, 3)
	// Its number isn't given again, and the first place is.
	tryAppend(t, s, d, image, rising(3000))
	if !slices.Equal(s.Segments(), []int{3, 4}) {
		t.Errorf("the segments are %v", s.Segments())
	}
	if b, _ := d.Read(0); !bytes.Equal(b, head(1, 4)) {
		t.Errorf("the head of 4 is % x", b)
	}
}

func TestRoundAndRound(t *testing.T) {
	for segments := 2; segments <= 4; segments++ {
		image := make([]byte, segments*4096)
		d := device(t, image)
		s := open(t, d)
		for k := range 600 {
			if n := s.Segments(); len(n) == segments {
				tryDrop(t, s, d, image, n[k%(segments-1)])
			}
			tryAppend(t, s, d, image, fill(byte(k), 500+k%700))
		}
		if s.Last() < 150 {
			t.Errorf("the last one is %d", s.Last())
		}
		held(t, open(t, d), d, image, "Open")
	}
}

// P8.1: a device that is down.

func TestADeviceThatIsDown(t *testing.T) {
	image := make([]byte, 3*4096)
	d := device(t, image)
	s := open(t, d)
	d.Stop(0)
	if n, err := s.Append([]byte("a")); n != 0 || err != api.ErrDown {
		t.Errorf("Append to a new store: %d, %v", n, err)
	}
	d.Crash(0, -1, 0)
	s = open(t, d)
	for range 2 {
		tryAppend(t, s, d, image, rising(3000))
	}
	d.Stop(0)
	for _, size := range []int{1, 3968} {
		s = open(t, d)
		if n, err := s.Append(rising(size)); n != 0 || err != api.ErrDown {
			t.Errorf("Append of %d bytes: %d, %v", size, n, err)
		}
	}
	s = open(t, d)
	if err := s.Drop(0); err != api.ErrDown {
		t.Errorf("Drop: %v", err)
	}
	held(t, open(t, d), d, image, "Open")
}

func TestAFullStoreAsksForNoPower(t *testing.T) {
	image := make([]byte, 4096)
	d := device(t, image)
	s := open(t, d)
	tryAppend(t, s, d, image, rising(3968))
	d.Stop(0)
	if n, err := s.Append([]byte("a")); n != 0 || err != api.ErrFull {
		t.Errorf("Append: %d, %v", n, err)
	}
}

// P8.1: what is handed in stays, and what is answered is the caller's own.

func TestArgumentsStay(t *testing.T) {
	d, err := disk.New(128)
	must(t, err)
	s := open(t, d)
	for _, size := range []int{1, 64, 100, 128} {
		room := append(rising(size), fill(9, 200)...)
		b := room[:size]
		must2(t)(s.Append(b))
		if !bytes.Equal(b, rising(size)) || !bytes.Equal(room[size:], fill(9, 200)) {
			t.Fatalf("Append changed its %d bytes", size)
		}
		clear(b)
		l := s.Records(0)
		if !bytes.Equal(l[len(l)-1], rising(size)) {
			t.Fatalf("a record changes with the %d bytes that were handed in", size)
		}
	}
}

func TestAnswersAreTheCallersOwn(t *testing.T) {
	image := make([]byte, 3*4096)
	d := device(t, image)
	s := open(t, d)
	for _, size := range []int{3968, 64, 100, 1, 3900} {
		tryAppend(t, s, d, image, rising(size))
	}
	clear(s.Segments())
	for _, n := range []int{0, 1, 2} {
		l := s.Records(n)
		for k := range l {
			// Behind a record's end there may be room that another one has.
			clear(append(l[k], l[k]...))
			for j := k + 1; j < len(l); j++ {
				if !bytes.Equal(l[j], s.Records(n)[j]) {
					t.Fatalf("record %d of segment %d changes with record %d", j, n, k)
				}
			}
		}
		clear(l)
	}
	held(t, s, d, image, "spoilt answers")
}

func TestStoresAreApart(t *testing.T) {
	image := make([]byte, 2*4096)
	d, e := device(t, image), device(t, image)
	s, r := open(t, d), open(t, e)
	before := bytes.Clone(image)
	for range 3 {
		tryAppend(t, s, d, image, rising(1500))
	}
	held(t, r, e, before, "another store")
	tryAppend(t, r, e, before, rising(2))
	held(t, s, d, image, "the first store")
}

// P8.1: every order.

// A step is a call of a store, done to an image, too.
type step struct {
	name  string
	store func(s *segs.Store) (int, error)
	image func(image []byte) (int, error)
}

// appendStep is an Append.
func appendStep(b []byte) step {
	return step{
		"Append " + strconv.Itoa(len(b)),
		func(s *segs.Store) (int, error) { return s.Append(b) },
		func(image []byte) (int, error) { return appended(image, b) },
	}
}

// dropStep is a Drop.
func dropStep(number int) step {
	return step{
		"Drop " + strconv.Itoa(number),
		func(s *segs.Store) (int, error) { return 0, s.Drop(number) },
		func(image []byte) (int, error) { return 0, dropped(image, number) },
	}
}

func TestAllOrders(t *testing.T) {
	steps := []step{
		appendStep([]byte("a")), appendStep(rising(1900)), appendStep(rising(3968)), appendStep(nil),
		dropStep(0), dropStep(1), dropStep(2),
	}
	const reopen = 7
	for order := range 8 * 8 * 8 * 8 * 8 {
		// A sixth call, so that what a Drop gave back may be taken and filled.
		row := []int{1, order % 8, order / 8 % 8, order / 64 % 8, order / 512 % 8, order / 4096}
		image := make([]byte, 2*4096)
		d := device(t, image)
		s := open(t, d)
		for _, k := range row {
			if k == reopen {
				s = open(t, d)
				continue
			}
			n, err := steps[k].store(s)
			if want, wrong := steps[k].image(image); n != want || err != wrong {
				t.Fatalf("%v: %s answers %d, %v, not %d, %v", row, steps[k].name, n, err, want, wrong)
			}
		}
		held(t, s, d, image, "a row of calls")
		held(t, open(t, d), d, image, "a row of calls, opened anew")
	}
}
