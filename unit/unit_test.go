package unit_test

import (
	"bytes"
	"fmt"
	"math"
	"slices"
	"strconv"
	"testing"

	"tidewater/api"
	"tidewater/disk"
	"tidewater/segs"
	"tidewater/unit"
)

// fresh is a new unit of so many segments, with its device and its model.
func fresh(t *testing.T, segments int) (*unit.Unit, *disk.Device, *model) {
	t.Helper()
	d, err := disk.New(segments * 64)
	must(t, err)
	return open(t, d), d, &model{segments: segments}
}

// laid is the unit of a model's image, with its device.
func laid(t *testing.T, m *model) (*unit.Unit, *disk.Device) {
	t.Helper()
	d := device(t, m.image())
	return open(t, d), d
}

// P9.1: Open.

func TestOpenOfADeviceThatIsShort(t *testing.T) {
	for n := 1; n < 64; n++ {
		d, err := disk.New(n)
		must(t, err)
		if u, err := unit.Open(d); err != api.ErrShort || u != nil {
			t.Errorf("Open of %d sectors: %v, %v", n, u, err)
		}
	}
}

func TestOpenOfNoughts(t *testing.T) {
	for _, n := range []int{64, 65, 127, 128, 512, 4095, 4096} {
		d, err := disk.New(n)
		must(t, err)
		// Nothing is written by it.
		d.Stop(0)
		u := open(t, d)
		held(t, u, d, &model{segments: n / 64}, all(), strconv.Itoa(n)+" sectors")
		if u.Epoch() != 0 || u.Trimmed() != 0 || u.Tail() != 0 || u.Free() != n/64 {
			t.Errorf("%d sectors: epoch %d, trimmed %d, tail %d, free %d", n, u.Epoch(), u.Trimmed(), u.Tail(), u.Free())
		}
		if !bytes.Equal(d.Image(), make([]byte, n*64)) {
			t.Errorf("%d sectors: Open writes", n)
		}
	}
}

// Rows of notes in every order, in one segment and in two: of one address the first page counts, of all else the last note.
func TestOpenOfRows(t *testing.T) {
	some := []note{
		pageNote(3, "a"), pageNote(3, "bc"), pageNote(0, "d"), pageNote(5, fill('e', 100)), pageNote(4095, "f"),
		trimNote(0, 4), trimNote(3, 1), trimNote(4, 2), trimNote(4096, 0),
		sealNote(0), sealNote(1), sealNote(2), sealNote(anyEpoch),
	}
	var row func(notes []note, trimmed int)
	row = func(notes []note, trimmed int) {
		for cut := range len(notes) + 1 {
			m := modelOf(2, notes[:cut], notes[cut:])
			u, d := laid(t, m)
			held(t, u, d, m, around, fmt.Sprint("the row ", notes, " cut at ", cut))
		}
		if len(notes) == 3 {
			return
		}
		for _, n := range some {
			// Which pages there are where a unit is trimmed back, the chapter doesn't say.
			if n.kind != 2 {
				row(append(slices.Clone(notes), n), trimmed)
			} else if n.at >= trimmed {
				row(append(slices.Clone(notes), n), n.at)
			}
		}
	}
	row(nil, 0)
}

func TestOpenTakesWhatLaterRecordsTell(t *testing.T) {
	for _, c := range []struct {
		notes          []note
		epoch, trimmed int
	}{
		{[]note{sealNote(7), sealNote(5)}, 5, 0},
		{[]note{sealNote(7), trimNote(3, 5)}, 5, 3},
		{[]note{trimNote(3, 5), sealNote(4)}, 4, 3},
		{[]note{trimNote(9, 5), trimNote(8, 4)}, 4, 8},
		{[]note{trimNote(4096, anyEpoch), trimNote(0, 0)}, 0, 0},
		{[]note{trimNote(9, 5), trimNote(8, 6), sealNote(2), trimNote(12, 1), sealNote(3)}, 3, 12},
	} {
		for cut := range len(c.notes) + 1 {
			u, _ := laid(t, modelOf(2, c.notes[:cut], c.notes[cut:]))
			if u.Epoch() != c.epoch || u.Trimmed() != c.trimmed || u.Tail() != c.trimmed {
				t.Errorf("%v, cut at %d: epoch %d, trimmed %d, tail %d", c.notes, cut, u.Epoch(), u.Trimmed(), u.Tail())
			}
		}
	}
}

// Later records are those of segments of greater numbers, wherever they stand.
func TestOpenGoesBySegmentsNumbers(t *testing.T) {
	for _, numbers := range [][]int{{1, 2, 3}, {1, 3, 2}, {2, 1, 3}, {2, 3, 1}, {3, 1, 2}, {3, 2, 1}} {
		m := &model{segments: 4}
		for _, n := range numbers {
			m.parts = append(m.parts, part{n, []note{pageNote(8, strconv.Itoa(n)), trimNote(n, n*10), pageNote(n, "p")}})
		}
		u, d := laid(t, m)
		slices.SortFunc(m.parts, func(a, b part) int { return a.number - b.number })
		held(t, u, d, m, around, list(numbers))
		if b, err := u.Read(30, 8); err != nil || string(b) != "1" || u.Epoch() != 30 || u.Trimmed() != 3 {
			t.Errorf("%v: page %q, %v, epoch %d, trimmed %d", numbers, b, err, u.Epoch(), u.Trimmed())
		}
	}
}

// written is a device of two segments, that has these records, the first ones in the first segment.
func written(t *testing.T, first, second []string) *disk.Device {
	t.Helper()
	image := make([]byte, 2*4096)
	for i, records := range [][]string{first, second} {
		b := image[i*4096 : i*4096+4096]
		b[0], b[63] = byte(i), 1
		at := 64
		for _, r := range records {
			b[at], b[at+1], b[at+63] = byte(len(r)), byte(len(r)>>8), 1
			copy(b[at+64:], r)
			at += 64 * sectors(len(r))
		}
	}
	return device(t, image)
}

// numberOf reads a number that may be so much; how many bytes it has, or 0 if it isn't one.
func numberOf(b string, most int) (int, int) {
	n := 0
	for i := range min(len(b), 9) {
		n += int(b[i]%128) << (7 * i)
		if b[i] < 128 {
			if i > 0 && b[i] == 0 || n > most {
				return 0, 0
			}
			return n, i + 1
		}
	}
	return 0, 0
}

// noteOf reads a record.
func noteOf(b string) (note, bool) {
	if b == "" || b[0] < 1 || b[0] > 3 {
		return note{}, false
	}
	n := note{kind: int(b[0])}
	b = b[1:]
	var most []int
	switch n.kind {
	case 1:
		most = []int{4095, 2048}
	case 2:
		most = []int{4096, anyEpoch}
	case 3:
		most = []int{anyEpoch}
	}
	var got []int
	for _, m := range most {
		x, size := numberOf(b, m)
		if size == 0 {
			return note{}, false
		}
		got = append(got, x)
		b = b[size:]
	}
	switch n.kind {
	case 1:
		n.at, n.page = got[0], b
		return n, b != "" && len(b) == got[1]
	case 2:
		n.at, n.epoch = got[0], got[1]
	case 3:
		n.epoch = got[0]
	}
	return n, b == ""
}

// oneRecord holds what is opened of one record against the tests' own reader.
func oneRecord(t *testing.T, b string) bool {
	t.Helper()
	d := written(t, []string{b}, nil)
	u, err := unit.Open(d)
	n, is := noteOf(b)
	if !is {
		if err != api.ErrForm || u != nil {
			t.Fatalf("a record %x: Open answers %v, %v", brief(b), u, err)
		}
		return false
	}
	if err != nil {
		t.Fatalf("a record %x: Open answers %v", brief(b), err)
	}
	held(t, u, d, modelOf(2, []note{n}, nil), append(around, n.at), "a record "+strconv.Quote(brief(b)))
	return true
}

// brief is a text that can be read in a message.
func brief(b string) string { return b[:min(len(b), 20)] }

func TestOpenOfShortBytes(t *testing.T) {
	signs := "\x00\x01\x02\x03\x04\x1f\x20\x21\x7f\x80\x81"
	right := 0
	rows := []string{""}
	for range 4 {
		var next []string
		for _, b := range rows {
			for i := range len(signs) {
				next = append(next, b+signs[i:i+1])
			}
		}
		for _, b := range next {
			if oneRecord(t, b) {
				right++
			}
		}
		rows = next
	}
	if right < 100 {
		t.Errorf("just %d of them are records", right)
	}
}

// Each right record with a byte changed, put in, left out or cut off.
func TestOpenOfChangedBytes(t *testing.T) {
	for _, n := range []note{
		pageNote(0, "a"), pageNote(4095, "ab"), pageNote(127, fill(1, 2)), pageNote(128, fill('x', 128)), pageNote(7, fill('x', 2048)),
		trimNote(0, 0), trimNote(4096, anyEpoch), trimNote(1, 127), trimNote(128, 128),
		sealNote(0), sealNote(anyEpoch), sealNote(5), sealNote(1 << 14),
	} {
		b := n.bytes()
		if !oneRecord(t, b) {
			t.Fatalf("%x is a record", brief(b))
		}
		for i := range min(len(b), 12) {
			oneRecord(t, b[:i]+b[i+1:])
			if i > 0 {
				oneRecord(t, b[:i])
			}
			for x := range 256 {
				sign := string([]byte{byte(x)})
				oneRecord(t, b[:i]+sign+b[i+1:])
				oneRecord(t, b[:i]+sign+b[i:])
			}
		}
		for _, behind := range []string{"\x00", "\x01", b, "\xff\xff"} {
			if len(b+behind) <= 3968 {
				oneRecord(t, b+behind)
			}
		}
	}
}

func TestOpenOfBounds(t *testing.T) {
	const great = 1 << 61
	for _, c := range []struct {
		b  string
		is bool
	}{
		{num(1) + num(4095) + num(1) + "a", true},
		{num(1) + num(4096) + num(1) + "a", false},
		{num(1) + num(4097) + num(1) + "a", false},
		{num(1) + num(great) + num(1) + "a", false},
		{num(1) + num(9) + num(2048) + fill('a', 2048), true},
		{num(1) + num(9) + num(2049) + fill('a', 2049), false},
		{num(1) + num(9) + num(3000) + fill('a', 3000), false},
		{num(1) + num(9) + num(great) + "a", false},
		{num(1) + num(9) + num(0), false},
		{num(1) + num(9) + num(2) + "a", false},
		{num(1) + num(9) + num(1) + "ab", false},
		{num(1) + num(9), false},
		{num(1), false},
		{num(2) + num(4096) + num(anyEpoch), true},
		{num(2) + num(4097) + num(0), false},
		{num(2) + num(great) + num(0), false},
		{num(2) + num(0) + num(anyEpoch+1), false},
		{num(2) + num(0) + num(great), false},
		{num(2) + num(0) + num(0) + num(0), false},
		{num(2) + num(5), false},
		{num(2), false},
		{num(3) + num(anyEpoch), true},
		{num(3) + num(anyEpoch+1), false},
		{num(3) + num(great), false},
		{num(3) + num(5) + num(5), false},
		{num(3), false},
		{num(0), false},
		{num(0) + num(5), false},
		{num(4) + num(5), false},
		{num(4) + num(5) + num(5), false},
		{num(129) + num(5) + num(1) + "a", false},
		{num(great) + num(5), false},
		{"\x83\x00\x05", false},
		{"\x03\x85\x00", false},
		{"\x03" + fill(255, 8) + "\x7f", false},
		{"\x03" + fill(255, 9), false},
		{"\x03" + fill(128, 10) + "\x01", false},
	} {
		if oneRecord(t, c.b) != c.is {
			t.Errorf("%x: a record is %v", brief(c.b), !c.is)
		}
	}
}

// A wrong record, wherever it stands, and whether or not it would still count.
func TestOpenOfAWrongRecordBesideOthers(t *testing.T) {
	right := []string{pageNote(3, "a").bytes(), sealNote(2).bytes(), trimNote(4096, 9).bytes(), pageNote(3, "b").bytes(), sealNote(9).bytes()}
	for _, wrong := range []string{"\x00", "\x04\x01", "\x01\x03\x00", "\x01\x03", "\x03\x01\x01", "\x03\x80", fill(255, 3000)} {
		for at := range len(right) + 1 {
			row := slices.Insert(slices.Clone(right), at, wrong)
			for cut := range len(row) + 1 {
				if u, err := unit.Open(written(t, row[:cut], row[cut:])); err != api.ErrForm || u != nil {
					t.Errorf("%x as record %d, cut at %d: Open answers %v, %v", brief(wrong), at, cut, u, err)
				}
			}
		}
	}
	if _, err := unit.Open(written(t, right[:2], right[2:])); err != nil {
		t.Errorf("without a wrong one: %v", err)
	}
}

// What is pending is there, too, as long as it isn't lost.
func TestOpenSeesWhatIsPending(t *testing.T) {
	u, d, m := fresh(t, 1)
	writing(0, 1, "a").do(t, u, m, "")
	d.Stop(3)
	if err := u.Write(0, 2, []byte("b")); err != api.ErrDown {
		t.Fatalf("Write answers %v", err)
	}
	if again := open(t, d); again.Has(2) {
		t.Error("a record whose head isn't written is read")
	}
	d.Crash(0, -1, 0)
	u = open(t, d)
	// Two sectors, a flush, the head: then it is pending.
	d.Stop(4)
	if err := u.Write(0, 2, []byte("b")); err != api.ErrDown {
		t.Fatalf("Write answers %v", err)
	}
	again := open(t, d)
	if b, err := again.Read(0, 2); err != nil || string(b) != "b" {
		t.Errorf("a pending page is read as %q, %v", b, err)
	}
}

// P9.1: what is written on the device.

func TestKnownRecords(t *testing.T) {
	u, d, _ := fresh(t, 3)
	must(t, u.Write(0, 3, []byte("x")))
	must(t, u.Write(0, 4095, []byte("ab")))
	must(t, u.Write(1<<30, 128, bytes.Repeat([]byte{7}, 300)))
	seal := func(epoch int) {
		t.Helper()
		if n, err := u.Seal(epoch); n != 4096 || err != nil {
			t.Fatalf("Seal answers %d, %v", n, err)
		}
	}
	seal(0)
	seal(1)
	seal(1)
	must(t, u.Trim(1, 1))
	must(t, u.Trim(77, 1)) // nothing
	must(t, u.Trim(77, 129))
	seal(300)
	seal(1 << 30)
	must(t, u.Trim(1<<30, 4096))
	want := []string{
		"\x01\x03\x01x",
		"\x01\xff\x1f\x02ab",
		"\x01\x80\x01\xac\x02" + fill(7, 300),
		"\x03\x01",
		"\x02\x01\x01",
		"\x02\x81\x01\x01",
		"\x03\xac\x02",
		"\x03\x80\x80\x80\x80\x04",
		"\x02\x80\x20\x80\x80\x80\x80\x04",
	}
	s, err := segs.Open(device(t, d.Image()))
	must(t, err)
	var got []string
	for _, r := range s.Records(0) {
		got = append(got, string(r))
	}
	if !slices.Equal(s.Segments(), []int{0}) || !slices.Equal(got, want) {
		t.Errorf("segments %v, records %q, not %q", s.Segments(), got, want)
	}
}

// P9.1: which error comes first.

// mixed is a model of which there are trimmed, written and unwritten addresses, and that is sealed.
func mixed(segments int) *model {
	return modelOf(segments,
		[]note{pageNote(2, "old"), sealNote(3), pageNote(10, "ten")},
		[]note{trimNote(5, 6), pageNote(4095, "last"), pageNote(6, fill('s', 2048))},
	)
}

var (
	theirEpochs    = []int{math.MinInt, -1, 0, 1, 5, 6, 7, anyEpoch - 1, anyEpoch, anyEpoch + 1, 1 << 31, math.MaxInt}
	theirAddresses = []int{math.MinInt, -4096, -1, 0, 2, 4, 5, 6, 7, 9, 10, 11, 4094, 4095, 4096, 4097, 1 << 32, math.MaxInt}
)

// everyCall is every call by every epoch at every address.
func everyCall() []call {
	var calls []call
	for _, epoch := range theirEpochs {
		for _, at := range theirAddresses {
			for _, b := range []string{"", "a", fill('b', 2048), fill('c', 2049), fill('d', 3968), fill('e', 4000)} {
				calls = append(calls, writing(epoch, at, b))
			}
			calls = append(calls, trimming(epoch, at))
		}
		calls = append(calls, sealing(epoch))
	}
	return calls
}

func TestEachCallOnce(t *testing.T) {
	for _, c := range everyCall() {
		m := mixed(4)
		u, d := laid(t, m)
		c.do(t, u, m, "")
		held(t, u, d, m, theirAddresses, c.name)
		held(t, open(t, d), d, m, theirAddresses, c.name+", opened anew")
	}
}

// With no room left: what is wrong of the call itself comes first.
func TestEachCallWithoutRoom(t *testing.T) {
	full := 0
	for _, c := range everyCall() {
		m := mixed(2)
		must(t, m.append(pageNote(100, rising(1, m.room()*64-64-4)))) // all of the last segment
		if m.room() != 0 {
			t.Fatalf("%d sectors are left", m.room())
		}
		u, d := laid(t, m)
		before := d.Image()
		if c.do(t, u, m, "") == api.ErrFull {
			full++
		}
		held(t, u, d, m, theirAddresses, c.name)
		if !bytes.Equal(d.Image(), before) {
			t.Fatalf("%s writes to the device", c.name)
		}
	}
	if full == 0 {
		t.Error("no call was ErrFull")
	}
}

// With the device down: what is wrong of the call itself comes first, and what needs no write is done.
func TestEachCallOfADeviceThatIsDown(t *testing.T) {
	down := 0
	for _, c := range everyCall() {
		m := mixed(4)
		before := m.clone()
		u, d := laid(t, m)
		d.Stop(0)
		want, wrong := c.model(m)
		if wrong == nil && !slices.EqualFunc(m.parts, before.parts, func(a, b part) bool { return slices.Equal(a.notes, b.notes) }) {
			want, wrong = 0, api.ErrDown
			down++
		}
		if n, err := c.unit(u); n != want || err != wrong {
			t.Fatalf("%s answers %d, %v, not %d, %v", c.name, n, err, want, wrong)
		}
		d.Crash(0, -1, 0)
		held(t, open(t, d), d, before, theirAddresses, c.name)
	}
	if down == 0 {
		t.Error("no call was ErrDown")
	}
}

func TestEachRead(t *testing.T) {
	m := mixed(4)
	u, d := laid(t, m)
	for _, down := range []bool{false, true} {
		if down {
			d.Stop(0)
		}
		for _, epoch := range theirEpochs {
			for _, at := range theirAddresses {
				want, wrong := m.read(epoch, at)
				if b, err := u.Read(epoch, at); string(b) != want || err != wrong || err != nil && b != nil {
					t.Errorf("Read(%d, %d) answers %q, %v, not %q, %v", epoch, at, b, err, want, wrong)
				}
			}
		}
	}
	held(t, u, d, m, all(), "behind them")
}

// P9.1: Write and Read.

func TestPagesOfAllSizes(t *testing.T) {
	for size := 1; size <= 2048; size++ {
		u, d, m := fresh(t, 1)
		writing(0, 5, rising(size, size)).do(t, u, m, "")
		held(t, u, d, m, around, strconv.Itoa(size)+" bytes")
		held(t, open(t, d), d, m, around, strconv.Itoa(size)+" bytes, opened anew")
	}
}

func TestPagesOfAnyBytes(t *testing.T) {
	u, d, m := fresh(t, 64)
	for x := range 256 {
		sign := string([]byte{byte(x)})
		writing(0, x, sign+"\x00"+sign).do(t, u, m, "")
		writing(0, x+256, sign).do(t, u, m, "")
	}
	writing(0, 600, fill(0, 2048)).do(t, u, m, "")
	held(t, u, d, m, all(), "written")
	held(t, open(t, d), d, m, all(), "opened anew")
}

// Pages at every address, as many as a device has room for, in more orders than one.
func TestPagesAtAllAddresses(t *testing.T) {
	orders := map[string]func(k int) int{
		"rising":    func(k int) int { return k },
		"falling":   func(k int) int { return 4095 - k },
		"scattered": func(k int) int { return (k*2731 + 1000) % 4096 },
	}
	for name, order := range orders {
		for from := 0; from < 4096; from += 1900 {
			d, err := disk.New(4096)
			must(t, err)
			u := open(t, d)
			tail := 0
			has := map[int]bool{}
			for k := from; k < min(from+1900, 4096); k++ {
				at := order(k)
				must(t, u.Write(0, at, []byte{byte(at), byte(at >> 8)}))
				tail, has[at] = max(tail, at+1), true
				if u.Tail() != tail {
					t.Fatalf("%s: the tail is %d, not %d", name, u.Tail(), tail)
				}
			}
			for _, u := range []*unit.Unit{u, open(t, d)} {
				for at := range 4096 {
					b, err := u.Read(0, at)
					if u.Has(at) != has[at] || has[at] && (err != nil || string(b) != string([]byte{byte(at), byte(at >> 8)})) || !has[at] && (err != api.ErrUnwritten || b != nil) {
						t.Fatalf("%s: address %d is %v, %x, %v", name, at, u.Has(at), b, err)
					}
				}
				if u.Tail() != tail || u.Trimmed() != 0 || u.Epoch() != 0 {
					t.Fatalf("%s: tail %d, trimmed %d, epoch %d", name, u.Tail(), u.Trimmed(), u.Epoch())
				}
			}
		}
	}
}

func TestAPageIsWrittenOnce(t *testing.T) {
	for _, at := range []int{0, 1, 7, 4095} {
		u, d, m := fresh(t, 2)
		writing(0, at, "first").do(t, u, m, "")
		for _, b := range []string{"first", "other", "f", fill('x', 2048)} {
			for _, epoch := range []int{0, 1, anyEpoch} {
				if err := u.Write(epoch, at, []byte(b)); err != api.ErrWritten {
					t.Errorf("a further Write to %d answers %v", at, err)
				}
				if err := open(t, d).Write(epoch, at, []byte(b)); err != api.ErrWritten {
					t.Errorf("opened anew, a further Write to %d answers %v", at, err)
				}
			}
		}
		held(t, u, d, m, around, "written once")
	}
}

func TestBytesAreApart(t *testing.T) {
	u, d, m := fresh(t, 2)
	b := []byte("abc")
	must(t, u.Write(0, 1, b))
	if string(b) != "abc" {
		t.Errorf("Write makes %q of its bytes", b)
	}
	must(t, m.write(0, 1, "abc"))
	b[0] = 'x'
	held(t, u, d, m, around, "what was handed in is changed")
	first, err := u.Read(0, 1)
	must(t, err)
	second, err := u.Read(0, 1)
	must(t, err)
	first[1] = 'y'
	first = append(first[:2], "zzz"...)
	if string(second) != "abc" {
		t.Errorf("two answers share their bytes: %q", second)
	}
	held(t, u, d, m, around, "what was answered is changed")
	again := open(t, d)
	first, err = again.Read(0, 1)
	must(t, err)
	first[0] = 'x'
	held(t, again, d, m, around, "what was answered, opened anew, is changed")
}

// P9.1: Seal.

func TestSealsInAllOrders(t *testing.T) {
	epochs := []int{-1, 0, 1, 2, 127, 128, anyEpoch, anyEpoch + 1}
	for _, a := range epochs {
		for _, b := range epochs {
			for _, c := range epochs {
				u, d, m := fresh(t, 2)
				for k, epoch := range []int{a, b, c} {
					sealing(epoch).do(t, u, m, "")
					held(t, u, d, m, nil, "sealed")
					writing(epoch, k, "p").do(t, u, m, "")
					writing(b, k+5, "q").do(t, u, m, "")
				}
				held(t, u, d, m, around, "sealed")
				held(t, open(t, d), d, m, around, "opened anew")
			}
		}
	}
}

// A call by a greater epoch isn't a Seal.
func TestGreaterEpochsDoNotSeal(t *testing.T) {
	u, d, m := fresh(t, 2)
	for _, c := range []call{sealing(2), writing(9, 1, "a"), trimming(anyEpoch, 1), writing(2, 2, "b"), trimming(3, 2), writing(2, 3, "c"), sealing(3), writing(2, 4, "d"), trimming(2, 4)} {
		c.do(t, u, m, "")
		if _, err := u.Read(8, 1); err == api.ErrSealed {
			t.Errorf("%s: Read answers %v", c.name, err)
		}
		held(t, u, d, m, around, c.name)
		held(t, open(t, d), d, m, around, c.name+", opened anew")
	}
	if u.Epoch() != 3 {
		t.Errorf("the epoch is %d", u.Epoch())
	}
}

// P9.1: Tail.

func TestTails(t *testing.T) {
	for _, c := range []struct {
		pages []int
		trim  int
		tail  int
	}{
		{nil, 0, 0}, {nil, 1, 1}, {nil, 4096, 4096}, {[]int{0}, 0, 1}, {[]int{0}, 1, 1}, {[]int{0}, 9, 9},
		{[]int{5, 3}, 0, 6}, {[]int{5, 3}, 4, 6}, {[]int{5, 3}, 5, 6}, {[]int{5, 3}, 6, 6}, {[]int{5, 3}, 7, 7},
		{[]int{4095}, 0, 4096}, {[]int{4095}, 4095, 4096}, {[]int{4095, 0}, 4096, 4096}, {[]int{4094}, 4095, 4095},
	} {
		u, d, m := fresh(t, 1)
		for _, at := range c.pages {
			writing(0, at, "p").do(t, u, m, "")
		}
		trimming(0, c.trim).do(t, u, m, "")
		for _, u := range []*unit.Unit{u, open(t, d)} {
			if u.Tail() != c.tail {
				t.Errorf("pages %v, trimmed to %d: tail %d, not %d", c.pages, c.trim, u.Tail(), c.tail)
			}
			if n, err := u.Seal(0); n != c.tail || err != nil {
				t.Errorf("pages %v, trimmed to %d: Seal answers %d, %v", c.pages, c.trim, n, err)
			}
		}
		if n, err := u.Seal(4); n != c.tail || err != nil {
			t.Errorf("pages %v, trimmed to %d: Seal answers %d, %v", c.pages, c.trim, n, err)
		}
	}
}

// P9.1: Trim, and which segments it drops.

func TestTrimDropsOldestFirst(t *testing.T) {
	for _, c := range []struct {
		name  string
		parts [][]note
		trims []int
		free  []int // behind each trim, of as many segments as there are
	}{
		{"one segment is the last one", [][]note{{pageNote(0, "a")}}, []int{1, 9, 4096}, []int{0, 0, 0}},
		{"one behind the other", [][]note{{pageNote(0, "a")}, {pageNote(1, "b")}, {pageNote(2, "c")}}, []int{1, 2, 3}, []int{1, 2, 2}},
		{"all at once", [][]note{{pageNote(0, "a")}, {pageNote(1, "b")}, {pageNote(2, "c")}}, []int{3}, []int{2}},
		{"the last one stays", [][]note{{pageNote(9, "a")}, {pageNote(0, "b")}}, []int{5, 9, 10}, []int{0, 0, 1}},
		{"at its page, and above", [][]note{{pageNote(7, "a")}, {pageNote(20, "b")}}, []int{6, 7, 8}, []int{0, 0, 1}},
		{"the greatest page counts, first or last", [][]note{{pageNote(7, "a"), pageNote(1, "b")}, {pageNote(2, "c"), pageNote(9, "d")}, {pageNote(3, "e")}}, []int{2, 7, 8, 9, 10}, []int{0, 0, 1, 1, 2}},
		{"an elder one holds later ones", [][]note{{pageNote(50, "a")}, {pageNote(1, "b")}, {pageNote(2, "c")}, {pageNote(3, "d")}}, []int{4, 50, 51}, []int{0, 0, 3}},
		{"one between holds the later one", [][]note{{pageNote(1, "a")}, {pageNote(50, "b")}, {pageNote(2, "c")}, {pageNote(3, "d")}}, []int{4, 51}, []int{1, 3}},
		{"without pages", [][]note{{sealNote(4)}, {trimNote(1, 5)}, {}, {sealNote(7)}}, []int{2}, []int{3}},
		{"seals and trims beside pages", [][]note{{sealNote(4), pageNote(8, "a")}, {trimNote(3, 5)}, {sealNote(7), pageNote(9, "b")}}, []int{4, 8, 9, 10}, []int{0, 0, 2, 2}},
		{"pages that were trimmed ahead", [][]note{{pageNote(1, "a")}, {pageNote(2, "b")}, {trimNote(5, 0)}}, []int{5, 6}, []int{0, 2}},
		{"the greatest address", [][]note{{pageNote(4095, "a")}, {pageNote(1, "b")}}, []int{4094, 4095, 4096}, []int{0, 0, 1}},
		{"address 0", [][]note{{pageNote(0, "a")}, {pageNote(4095, "b")}}, []int{0, 1}, []int{0, 1}},
	} {
		t.Run(c.name, func(t *testing.T) {
			m := modelOf(len(c.parts), c.parts...)
			u, d := laid(t, m)
			for i, to := range c.trims {
				what := "trimmed to " + strconv.Itoa(to)
				trimming(anyEpoch, to).do(t, u, m, "")
				held(t, u, d, m, all(), what)
				if u.Free() != c.free[i] {
					t.Errorf("%s: %d are free, not %d", what, u.Free(), c.free[i])
				}
				held(t, open(t, d), d, m, all(), what+", opened anew")
			}
		})
	}
}

// Segments that are left over by a Trim whose drops were cut off go with the next one, not ahead of it.
func TestSegmentsLeftOver(t *testing.T) {
	m := modelOf(4, []note{pageNote(0, "a")}, []note{pageNote(1, "b")}, []note{trimNote(2, 3)})
	u, d := laid(t, m)
	for _, to := range []int{0, 1, 2} {
		must(t, u.Trim(3, to))
		held(t, u, d, m, around, "nothing to trim")
	}
	if u.Free() != 1 {
		t.Fatalf("%d are free", u.Free())
	}
	trimming(3, 3).do(t, u, m, "")
	held(t, u, d, m, around, "trimmed further")
	if u.Free() != 3 {
		t.Errorf("%d are free", u.Free())
	}
}

// Where the record of a Trim takes a further segment, the one that was the last is dropped, too.
func TestTrimTakesAFurtherSegment(t *testing.T) {
	m := modelOf(2, []note{sealNote(6), pageNote(0, rising(1, 2048))})
	must(t, m.append(pageNote(1, rising(2, m.room()*64-64-4))))
	u, d := laid(t, m)
	trimming(6, 2).do(t, u, m, "")
	held(t, u, d, m, all(), "trimmed")
	u = open(t, d)
	held(t, u, d, m, all(), "opened anew")
	if u.Free() != 1 || u.Epoch() != 6 || u.Trimmed() != 2 {
		t.Errorf("%d are free, epoch %d, trimmed %d", u.Free(), u.Epoch(), u.Trimmed())
	}
}

// Room comes back by trims, for more than a device holds at once; what is trimmed and sealed stays so, whichever segments go.
func TestTrimsGiveRoom(t *testing.T) {
	u, d, m := fresh(t, 3)
	sealing(2).do(t, u, m, "")
	last := 0
	for at := range 400 {
		what := "page " + strconv.Itoa(at) + ": "
		if m.room() < 40 && at > last {
			trimming(2+at, at).do(t, u, m, what)
			last = at
		}
		writing(2, at, rising(at, 1900)).do(t, u, m, what)
		if at%7 == 0 {
			u = open(t, d)
		}
		held(t, u, d, m, []int{at - 5, at - 4, at - 3, at - 2, at - 1, at, at + 1}, what)
	}
	if u.Epoch() != 2 || u.Trimmed() != last || last < 390 {
		t.Errorf("epoch %d, trimmed %d of %d", u.Epoch(), u.Trimmed(), last)
	}
}

func TestTrimWithoutRoom(t *testing.T) {
	m := modelOf(1, []note{pageNote(0, rising(1, 2048))})
	must(t, m.append(pageNote(1, rising(2, (m.room()-1-2)*64-4))))
	u, d := laid(t, m)
	before := m.clone()
	for _, c := range []call{writing(0, 2, fill('x', 61)), writing(0, 2, fill('x', 62)), trimming(0, 1), sealing(4), trimming(4, 2), sealing(4), trimming(4, 1), sealing(5), writing(5, 0, "a"), writing(5, 1, "a")} {
		c.do(t, u, m, "")
		held(t, u, d, m, around, c.name)
		held(t, open(t, d), d, m, around, c.name+", opened anew")
	}
	if len(m.parts[0].notes) != len(before.parts[0].notes)+1 {
		t.Errorf("%d notes", len(m.parts[0].notes))
	}
}

// P9.1: all rows of few calls, and long thrown ones.

// reopening is no call, but the unit of the same device.
const reopening = "reopen"

// shortRows are calls of which all rows are done.
func shortRows() []call {
	return []call{
		writing(anyEpoch, 0, rising(1, 2048)),
		writing(1, 1, rising(2, 1000)),
		writing(0, 2, rising(3, 1500)),
		writing(2, 1, rising(4, 1400)),
		trimming(anyEpoch, 1),
		trimming(1, 2),
		trimming(2, 4),
		sealing(1),
		sealing(2),
		{name: reopening},
	}
}

// starts are what short rows begin with: two segments of which each holds two or three pages, so that rows come to their ends.
func starts() []*model {
	return []*model{
		modelOf(2),
		modelOf(2, []note{pageNote(3, rising(9, 1800))}),
		modelOf(2, []note{pageNote(0, rising(9, 1800)), sealNote(1)}, []note{pageNote(3, rising(8, 1200)), trimNote(1, 1), pageNote(2, "p")}),
	}
}

func TestAllRows(t *testing.T) {
	calls := shortRows()
	for i, start := range starts() {
		for first := range calls {
			t.Run(strconv.Itoa(i)+" "+calls[first].name, func(t *testing.T) {
				t.Parallel()
				row := []int{first, 0, 0, 0}
				for more := true; more; more = next(row[1:], len(calls)) {
					doRow(t, start.clone(), calls, row)
				}
			})
		}
	}
}

// doRow does a row of calls, by their numbers.
func doRow(t *testing.T, m *model, calls []call, row []int) {
	t.Helper()
	u, d := laid(t, m)
	names := ""
	for _, i := range row {
		c := calls[i]
		if c.name == reopening {
			u = open(t, d)
		} else {
			c.do(t, u, m, names)
		}
		names += c.name + ", "
	}
	held(t, u, d, m, around[1:9], names)
	held(t, open(t, d), d, m, around[1:9], names+"opened anew")
}

// next is the row behind a row of numbers; false behind the last one.
func next(row []int, below int) bool {
	for i := range row {
		row[i]++
		if row[i] < below {
			return true
		}
		row[i] = 0
	}
	return false
}

// thrown is a row of numbers that look thrown, the same each time.
func thrown(seed uint64) func(below int) int {
	return func(below int) int {
		seed = seed*6364136223846793005 + 1442695040888963407
		return int((seed >> 33) % uint64(below))
	}
}

// throwCall is a call that may be done, or not: its addresses go on with the tail, so that trims give room.
func throwCall(throw func(int) int, m *model) call {
	pages, trimmed, epoch := m.state()
	at := max(m.tail()+throw(3)-1-throw(4)*throw(4), 0)
	if throw(20) == 0 {
		at = trimmed + throw(8) - 4
	}
	by := epoch + []int{0, 0, 0, 0, 1, 3, -1}[throw(7)]
	switch k := throw(12); {
	case k < 7:
		size := 1 + throw([]int{10, 64, 300, 1200, 2048}[throw(5)])
		return writing(by, at, rising(throw(256), size))
	case k < 11:
		return trimming(by, trimmed+throw(2+len(pages)))
	}
	return sealing(epoch + throw(4) - 1)
}

func TestThrownRows(t *testing.T) {
	for seed := range uint64(60) {
		t.Run(strconv.Itoa(int(seed)), func(t *testing.T) {
			t.Parallel()
			throw := thrown(seed)
			u, d, m := fresh(t, 1+throw(5))
			full, dropped := 0, 0
			for k := range 400 {
				c := throwCall(throw, m)
				before := m.clone()
				if c.do(t, u, m, "call "+strconv.Itoa(k)+", ") == api.ErrFull {
					full++
				}
				if len(before.parts) > 0 && m.parts[0].number > before.parts[0].number {
					dropped++
				}
				if throw(10) == 0 {
					u = open(t, d)
				}
				tail := m.tail()
				held(t, u, d, m, []int{0, tail - 9, tail - 5, tail - 4, tail - 3, tail - 2, tail - 1, tail, tail + 1, u.Trimmed() - 1, u.Trimmed(), u.Trimmed() + 1}, "call "+strconv.Itoa(k)+", "+c.name)
			}
			held(t, open(t, d), d, m, all(), "opened anew")
			if m.segments > 1 && full+dropped == 0 {
				t.Errorf("no segment was dropped, and there was room all the time")
			}
		})
	}
}
