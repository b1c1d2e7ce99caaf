package disk

import (
	"bytes"
	"math"
	"slices"
	"strconv"
	"testing"

	"tidewater/api"
)

// fill is a sector of one byte, over and over.
func fill(b byte) []byte { return bytes.Repeat([]byte{b}, 64) }

// rising is an image whose bytes differ from sector to sector and within each.
func rising(n int) []byte {
	image := make([]byte, n*64)
	for i := range image {
		image[i] = byte(i/64*31 + i%64)
	}
	return image
}

// fresh is a device of an image of some sectors.
func fresh(t *testing.T, n int) *Device {
	t.Helper()
	d, err := From(rising(n))
	if err != nil {
		t.Fatal(err)
	}
	return d
}

// must asks for no error.
func must(t *testing.T, err error) {
	t.Helper()
	if err != nil {
		t.Fatal(err)
	}
}

// P7.1: New, From, Len, Image.

func TestNew(t *testing.T) {
	for _, n := range []int{math.MinInt, -4096, -1, 0, 4097, 4096 * 64, math.MaxInt} {
		if d, err := New(n); err != api.ErrRange || d != nil {
			t.Errorf("New(%d) = %v, %v", n, d, err)
		}
	}
	for _, n := range []int{1, 2, 3, 64, 4095, 4096} {
		d, err := New(n)
		must(t, err)
		if d.Len() != n || d.Pending() != 0 || d.Down() || !bytes.Equal(d.Image(), make([]byte, n*64)) {
			t.Errorf("New(%d): %d sectors, %d pending, down %v", n, d.Len(), d.Pending(), d.Down())
		}
		for _, i := range []int{0, n - 1} {
			if b, err := d.Read(i); err != nil || !bytes.Equal(b, fill(0)) {
				t.Errorf("New(%d): sector %d is % x, %v", n, i, b, err)
			}
		}
	}
}

func TestFrom(t *testing.T) {
	for _, size := range []int{0, 1, 63, 65, 127, 129, 4096*64 - 1, 4096*64 + 1, 4096*64 + 63, 4097 * 64, 4098 * 64} {
		if d, err := From(make([]byte, size)); err != api.ErrForm || d != nil {
			t.Errorf("From %d bytes: %v, %v", size, d, err)
		}
	}
	if d, err := From(nil); err != api.ErrForm || d != nil {
		t.Errorf("From(nil) = %v, %v", d, err)
	}
	for _, n := range []int{1, 2, 5, 4095, 4096} {
		image := rising(n)
		d, err := From(image)
		must(t, err)
		if d.Len() != n || d.Pending() != 0 || d.Down() || !bytes.Equal(d.Image(), image) {
			t.Errorf("From %d sectors: %d, %d pending, down %v", n, d.Len(), d.Pending(), d.Down())
		}
		for i := range n {
			if b, err := d.Read(i); err != nil || !bytes.Equal(b, image[i*64:i*64+64]) {
				t.Fatalf("From %d sectors: sector %d is % x, %v", n, i, b, err)
			}
		}
	}
}

// P7.1: Write, Read, Flush, Pending.

func TestWrongSectors(t *testing.T) {
	for _, n := range []int{1, 3, 4096} {
		d := fresh(t, n)
		for _, i := range []int{math.MinInt, -64, -1, n, n + 1, n * 64, math.MaxInt, math.MaxInt / 64, 1 << 58} {
			// A sector that isn't there counts ahead of bytes that aren't right.
			for _, b := range [][]byte{fill(1), nil, make([]byte, 63), make([]byte, 65)} {
				if err := d.Write(i, b); err != api.ErrRange {
					t.Errorf("Write to %d of %d: %v", i, n, err)
				}
			}
			if b, err := d.Read(i); err != api.ErrRange || b != nil {
				t.Errorf("Read %d of %d: % x, %v", i, n, b, err)
			}
		}
		if d.Pending() != 0 || !bytes.Equal(d.Image(), rising(n)) {
			t.Errorf("wrong sectors were written")
		}
	}
}

func TestWrongBytes(t *testing.T) {
	d := fresh(t, 2)
	for _, size := range []int{0, 1, 32, 63, 65, 128, 4096} {
		for i := range 2 {
			if err := d.Write(i, make([]byte, size)); err != api.ErrForm {
				t.Errorf("Write of %d bytes: %v", size, err)
			}
		}
	}
	must(t, d.Flush())
	if d.Pending() != 0 || !bytes.Equal(d.Image(), rising(2)) {
		t.Error("wrong bytes were written")
	}
}

func TestPendingWritesAreReadButNotDurable(t *testing.T) {
	d := fresh(t, 3)
	for k, at := range []int{1, 0, 1, 2, 1} {
		must(t, d.Write(at, fill(byte(k+1))))
		if b, err := d.Read(at); err != nil || !bytes.Equal(b, fill(byte(k+1))) {
			t.Fatalf("write %d is read as % x, %v", k, b, err)
		}
		if d.Pending() != k+1 || !bytes.Equal(d.Image(), rising(3)) {
			t.Fatalf("behind write %d: %d pending", k, d.Pending())
		}
	}
	must(t, d.Flush())
	want := slices.Concat(fill(2), fill(5), fill(4))
	if d.Pending() != 0 || !bytes.Equal(d.Image(), want) {
		t.Errorf("flushed: %d pending, % x", d.Pending(), d.Image())
	}
	for i := range 3 {
		if b, err := d.Read(i); err != nil || !bytes.Equal(b, want[i*64:i*64+64]) {
			t.Errorf("flushed: sector %d is % x, %v", i, b, err)
		}
	}
	must(t, d.Flush())
	if !bytes.Equal(d.Image(), want) {
		t.Error("a second Flush did something")
	}
}

func TestManyPendingWrites(t *testing.T) {
	d, _ := New(4096)
	for k := range 10000 {
		must(t, d.Write(k*7%4096, fill(byte(k%251))))
		if b, _ := d.Read(k * 7 % 4096); b[63] != byte(k%251) {
			t.Fatalf("write %d is read as % x", k, b)
		}
	}
	if d.Pending() != 10000 {
		t.Errorf("%d are pending", d.Pending())
	}
	must(t, d.Flush())
	last := map[int]int{}
	for k := range 10000 {
		last[k*7%4096] = k % 251
	}
	image := d.Image()
	for i := range 4096 {
		if !bytes.Equal(image[i*64:i*64+64], fill(byte(last[i]))) {
			t.Fatalf("sector %d is % x, not all %d", i, image[i*64:i*64+64], last[i])
		}
	}
}

func TestFlushOfWritesApart(t *testing.T) {
	for _, n := range []int{1, 63, 64, 65, 128, 129, 1000, 4096} {
		image := rising(n)
		d, _ := New(n)
		for i := range n {
			must(t, d.Write(i, image[i*64:i*64+64]))
		}
		must(t, d.Flush())
		if d.Pending() != 0 || !bytes.Equal(d.Image(), image) {
			t.Errorf("%d writes: %d pending, or not all done", n, d.Pending())
		}
	}
}

// P7.1: Stop and Down.

// A call that needs power, by what it does to a device.
type call struct {
	name string
	do   func(d *Device) error
}

func powered() []call {
	return []call{
		{"Write", func(d *Device) error { return d.Write(1, fill(9)) }},
		{"Flush", func(d *Device) error { return d.Flush() }},
	}
}

func TestStopCountsWritesAndFlushes(t *testing.T) {
	for after := -2; after <= 6; after++ {
		// The bits of order tell which calls are Flushes.
		for order := range 1 << 7 {
			d := fresh(t, 3)
			d.Stop(after)
			for k := range 7 {
				down := k >= max(after, 0)
				if d.Down() != down {
					t.Fatalf("Stop(%d), order %b: behind %d calls down is %v", after, order, k, d.Down())
				}
				pending, image := d.Pending(), d.Image()
				c := powered()[order>>k&1]
				err := c.do(d)
				if down && (err != api.ErrDown || d.Pending() != pending || !bytes.Equal(d.Image(), image)) {
					t.Fatalf("Stop(%d), order %b: %s as call %d: %v, %d pending", after, order, c.name, k, err, d.Pending())
				}
				if !down && err != nil {
					t.Fatalf("Stop(%d), order %b: %s as call %d: %v", after, order, c.name, k, err)
				}
			}
		}
	}
}

func TestStopOfExtremes(t *testing.T) {
	d := fresh(t, 2)
	d.Stop(math.MinInt)
	if !d.Down() || d.Flush() != api.ErrDown {
		t.Error("Stop(MinInt) doesn't stop it at once")
	}
	d.Crash(0, -1, 0)
	d.Stop(math.MaxInt)
	for range 100 {
		must(t, d.Write(0, fill(1)))
		must(t, d.Flush())
	}
	if d.Down() {
		t.Error("Stop(MaxInt) has stopped it")
	}
}

func TestOtherCallsDoNotCount(t *testing.T) {
	d := fresh(t, 2)
	d.Stop(2)
	for range 5 {
		if d.Write(-1, fill(1)) != api.ErrRange || d.Write(2, fill(1)) != api.ErrRange || d.Write(0, nil) != api.ErrForm || d.Write(1, make([]byte, 65)) != api.ErrForm {
			t.Fatal("wrong Writes have no error")
		}
		d.Read(0)
		d.Read(7)
		d.Len()
		d.Pending()
		d.Down()
		d.Image()
	}
	if d.Down() {
		t.Fatal("calls that need no power were counted")
	}
	must(t, d.Write(0, fill(1)))
	if d.Down() {
		t.Fatal("it's down a call too soon")
	}
	must(t, d.Flush())
	if !d.Down() {
		t.Error("it isn't down behind its last call")
	}
}

func TestADeviceThatIsDown(t *testing.T) {
	d := fresh(t, 2)
	must(t, d.Write(0, fill(1)))
	must(t, d.Flush())
	must(t, d.Write(1, fill(2)))
	d.Stop(0)
	for range 3 {
		if !d.Down() || d.Len() != 2 || d.Pending() != 1 {
			t.Fatalf("down %v, %d sectors, %d pending", d.Down(), d.Len(), d.Pending())
		}
		// Other errors count ahead of this one.
		if d.Write(2, fill(3)) != api.ErrRange || d.Write(-1, nil) != api.ErrRange || d.Write(0, make([]byte, 63)) != api.ErrForm {
			t.Fatal("a wrong Write has another error when it's down")
		}
		if d.Write(1, fill(3)) != api.ErrDown || d.Flush() != api.ErrDown {
			t.Fatal("it does something when it's down")
		}
		if b, err := d.Read(1); err != nil || !bytes.Equal(b, fill(2)) {
			t.Fatalf("sector 1 is % x, %v", b, err)
		}
		if b, err := d.Read(2); err != api.ErrRange || b != nil {
			t.Fatalf("sector 2 is % x, %v", b, err)
		}
		if !bytes.Equal(d.Image(), slices.Concat(fill(1), rising(2)[64:])) {
			t.Fatalf("the image is % x", d.Image())
		}
	}
	d.Crash(1, -1, 0)
	if d.Down() || d.Pending() != 0 || !bytes.Equal(d.Image(), slices.Concat(fill(1), fill(2))) {
		t.Errorf("behind a Crash: down %v, %d pending, % x", d.Down(), d.Pending(), d.Image())
	}
	must(t, d.Write(0, fill(5)))
	must(t, d.Flush())
	if !bytes.Equal(d.Image(), slices.Concat(fill(5), fill(2))) {
		t.Errorf("behind a Crash it's written as % x", d.Image())
	}
}

func TestStopOfADeviceThatIsDown(t *testing.T) {
	d := fresh(t, 1)
	d.Stop(1)
	must(t, d.Flush())
	for _, after := range []int{5, 1, 0, -1} {
		d.Stop(after)
		if !d.Down() || d.Flush() != api.ErrDown || d.Write(0, fill(1)) != api.ErrDown {
			t.Fatalf("Stop(%d) brings it back", after)
		}
	}
	d.Crash(0, -1, 0)
	for range 9 {
		must(t, d.Flush())
	}
	if d.Down() {
		t.Error("behind a Crash it goes down")
	}
}

func TestALaterStopCounts(t *testing.T) {
	for _, c := range []struct{ first, calls, second int }{{1, 0, 3}, {3, 0, 1}, {4, 2, 4}, {5, 2, 1}, {2, 1, 1}, {9, 3, 0}, {3, 2, -4}} {
		d := fresh(t, 2)
		d.Stop(c.first)
		for range c.calls {
			must(t, d.Flush())
		}
		d.Stop(c.second)
		for range max(c.second, 0) {
			must(t, d.Write(0, fill(1)))
		}
		if !d.Down() || d.Flush() != api.ErrDown {
			t.Errorf("%v: it isn't down", c)
		}
	}
}

func TestCrashEndsAStop(t *testing.T) {
	d := fresh(t, 2)
	d.Stop(2)
	must(t, d.Write(0, fill(1)))
	d.Crash(0, -1, 0)
	for range 9 {
		must(t, d.Write(0, fill(1)))
		must(t, d.Flush())
	}
	if d.Down() {
		t.Error("a Stop goes on behind a Crash")
	}
	d.Stop(1)
	must(t, d.Flush())
	if !d.Down() {
		t.Error("a Stop behind a Crash does nothing")
	}
}

// P7.1: Crash.

// crashed is what a Crash makes of an image, byte by byte, as the words tell it.
func crashed(image []byte, at []int, with []byte, kept uint64, torn, cut int) []byte {
	cut %= 65
	if cut < 0 {
		cut += 65
	}
	for k := range at {
		for j := range 64 {
			done := kept&(uint64(1)<<(k%64)) != 0
			if k == torn {
				done = j < cut
			}
			if done {
				image[at[k]*64+j] = with[k]
			}
		}
	}
	return image
}

// tryCrash holds a Crash of pending writes against the words.
func tryCrash(t *testing.T, n int, at []int, kept uint64, torn, cut int) {
	t.Helper()
	d := fresh(t, n)
	with := make([]byte, len(at))
	for k := range at {
		with[k] = byte(200 + k)
		must(t, d.Write(at[k], fill(with[k])))
	}
	d.Crash(kept, torn, cut)
	want := crashed(rising(n), at, with, kept, torn, cut)
	if !bytes.Equal(d.Image(), want) || d.Pending() != 0 || d.Down() {
		t.Fatalf("Crash(%x, %d, %d) of %v: % x, %d pending, down %v", kept, torn, cut, at, d.Image(), d.Pending(), d.Down())
	}
	for i := range n {
		if b, err := d.Read(i); err != nil || !bytes.Equal(b, want[i*64:i*64+64]) {
			t.Fatalf("Crash(%x, %d, %d) of %v: sector %d is read as % x, %v", kept, torn, cut, at, i, b, err)
		}
	}
	// What is lost doesn't come back.
	must(t, d.Flush())
	d.Crash(math.MaxUint64, -1, 0)
	if !bytes.Equal(d.Image(), want) {
		t.Fatalf("Crash(%x, %d, %d) of %v: what was lost comes back", kept, torn, cut, at)
	}
}

func TestCrashOfFewWrites(t *testing.T) {
	orders := [][]int{nil, {0}, {2}, {0, 1}, {1, 0}, {1, 1}, {0, 1, 2}, {1, 0, 1}, {1, 1, 1}, {2, 0, 2, 0}, {1, 1, 2, 1}}
	for _, at := range orders {
		for kept := range uint64(32) {
			for torn := -2; torn <= 5; torn++ {
				for _, cut := range []int{0, 1, 31, 63, 64} {
					tryCrash(t, 3, at, kept, torn, cut)
					tryCrash(t, 3, at, kept<<59|kept, torn, cut)
				}
			}
		}
	}
}

func TestCrashOfCuts(t *testing.T) {
	cuts := []int{math.MinInt, math.MinInt + 1, math.MaxInt, math.MaxInt - 1, 1 << 32, -1 << 32}
	for cut := -200; cut <= 200; cut++ {
		cuts = append(cuts, cut)
	}
	for _, cut := range cuts {
		for _, kept := range []uint64{0, 1, 2, 3} {
			tryCrash(t, 2, []int{1, 1}, kept, 0, cut)
			tryCrash(t, 2, []int{1, 1}, kept, 1, cut)
			tryCrash(t, 2, []int{0, 1}, kept, 2, cut)
		}
	}
}

func TestCrashOfKnownCuts(t *testing.T) {
	for _, c := range []struct{ cut, done int }{{0, 0}, {1, 1}, {63, 63}, {64, 64}, {65, 0}, {66, 1}, {129, 64}, {130, 0}, {-1, 64}, {-2, 63}, {-64, 1}, {-65, 0}, {-66, 64}} {
		d, _ := New(1)
		must(t, d.Write(0, fill(1)))
		d.Crash(0, 0, c.cut)
		if b, _ := d.Read(0); bytes.Count(b, []byte{1}) != c.done || c.done > 0 && b[c.done-1] != 1 {
			t.Errorf("cut %d leaves % x", c.cut, b)
		}
	}
}

func TestCrashOfMoreWritesThanBits(t *testing.T) {
	var apart, mixed []int
	for k := range 150 {
		apart = append(apart, k)
		mixed = append(mixed, k*k%7)
	}
	for bit := range 64 {
		tryCrash(t, 150, apart, 1<<bit, -1, 0)
		tryCrash(t, 7, mixed, ^(uint64(1) << bit), -1, 0)
	}
	for _, kept := range []uint64{0, math.MaxUint64, 0x8000000000000001, 0x0123456789abcdef} {
		// The number of the torn one is its own, not one modulo 64.
		for _, torn := range []int{-128, -65, -64, -1, 0, 1, 63, 64, 65, 127, 128, 149, 150, 192, math.MinInt, math.MaxInt} {
			tryCrash(t, 150, apart, kept, torn, 20)
			tryCrash(t, 7, mixed, kept, torn, 20)
		}
	}
}

func TestCrashNumbersPendingWritesAlone(t *testing.T) {
	d := fresh(t, 4)
	must(t, d.Write(0, fill(1)))
	must(t, d.Flush())
	must(t, d.Write(1, fill(2)))
	d.Crash(0, -1, 0)
	must(t, d.Write(2, fill(3)))
	if d.Write(2, nil) != api.ErrForm {
		t.Fatal("a wrong Write has no error")
	}
	must(t, d.Write(3, fill(4)))
	d.Crash(1<<1, -1, 0)
	want := slices.Concat(fill(1), rising(4)[64:192], fill(4))
	if !bytes.Equal(d.Image(), want) {
		t.Errorf("the image is % x", d.Image())
	}
}

// P7.1: what is handed in stays, and what is answered is the caller's own.

func TestArgumentsStay(t *testing.T) {
	image := rising(2)
	d, _ := From(image)
	clear(image)
	if !bytes.Equal(d.Image(), rising(2)) {
		t.Error("the device changes with its image")
	}
	b := fill(7)
	must(t, d.Write(0, b))
	if !bytes.Equal(b, fill(7)) {
		t.Errorf("Write made its bytes % x", b)
	}
	clear(b)
	if got, _ := d.Read(0); !bytes.Equal(got, fill(7)) {
		t.Errorf("what was written is read as % x", got)
	}
	must(t, d.Flush())
	want := slices.Concat(fill(7), rising(2)[64:])
	if !bytes.Equal(d.Image(), want) {
		t.Errorf("the image is % x", d.Image())
	}
	image = rising(2)
	d, _ = From(image)
	must(t, d.Write(1, fill(1)))
	must(t, d.Flush())
	if !bytes.Equal(image, rising(2)) {
		t.Error("Flush changes the image that was handed in")
	}
}

func TestAnswersAreTheCallersOwn(t *testing.T) {
	d := fresh(t, 2)
	must(t, d.Write(0, fill(7)))
	spoil := func() {
		for i := range 2 {
			b, _ := d.Read(i)
			// Behind a sector's end there may be room that another one has.
			clear(append(b, b...)[:128])
		}
		clear(d.Image())
	}
	spoil()
	if b, _ := d.Read(0); !bytes.Equal(b, fill(7)) {
		t.Errorf("a pending sector is % x", b)
	}
	if b, _ := d.Read(1); !bytes.Equal(b, rising(2)[64:]) {
		t.Errorf("a durable sector is % x", b)
	}
	if !bytes.Equal(d.Image(), rising(2)) {
		t.Errorf("the image is % x", d.Image())
	}
	must(t, d.Flush())
	spoil()
	if want := slices.Concat(fill(7), rising(2)[64:]); !bytes.Equal(d.Image(), want) {
		t.Errorf("the flushed image is % x", d.Image())
	}
	d.Crash(0, -1, 0)
	if b, _ := d.Read(0); !bytes.Equal(b, fill(7)) {
		t.Errorf("a flushed sector is % x", b)
	}
}

func TestDevicesAreApart(t *testing.T) {
	one := fresh(t, 2)
	other, _ := From(one.Image())
	must(t, one.Write(0, fill(1)))
	must(t, one.Flush())
	one.Stop(0)
	if other.Down() || other.Pending() != 0 || !bytes.Equal(other.Image(), rising(2)) {
		t.Error("a device changes with another one")
	}
}

// P7.1: every order.

// A model is a device as the words tell it, without a shortcut.
type model struct {
	n       int
	durable map[int]byte // by number of the byte; none is 0
	at      []int
	with    [][]byte
	limit   int // calls that are still done; -1: no bound
}

func (m *model) write(i int, b []byte) error {
	if i < 0 || i >= m.n {
		return api.ErrRange
	}
	if len(b) != 64 {
		return api.ErrForm
	}
	if err := m.spend(); err != nil {
		return err
	}
	m.at = append(m.at, i)
	m.with = append(m.with, bytes.Clone(b))
	return nil
}

func (m *model) spend() error {
	if m.limit == 0 {
		return api.ErrDown
	}
	if m.limit > 0 {
		m.limit--
	}
	return nil
}

func (m *model) flush() error {
	if err := m.spend(); err != nil {
		return err
	}
	m.apply(func(k, j int) bool { return true })
	return nil
}

func (m *model) apply(done func(k, j int) bool) {
	for k := range m.at {
		for j := range 64 {
			if done(k, j) {
				m.durable[m.at[k]*64+j] = m.with[k][j]
			}
		}
	}
	m.at, m.with = nil, nil
}

func (m *model) stop(after int) {
	if m.limit != 0 {
		m.limit = max(after, 0)
	}
}

func (m *model) crash(kept uint64, torn, cut int) {
	m.apply(func(k, j int) bool {
		if k == torn {
			return j < (cut%65+65)%65
		}
		return kept>>(k%64)%2 == 1
	})
	m.limit = -1
}

func (m *model) read(i int) []byte {
	b := make([]byte, 64)
	for j := range b {
		b[j] = m.durable[i*64+j]
	}
	for k, at := range m.at {
		if at == i {
			copy(b, m.with[k])
		}
	}
	return b
}

// held holds all that a device tells against its model.
func (m *model) held(t *testing.T, d *Device, told []string) {
	t.Helper()
	if d.Len() != m.n || d.Pending() != len(m.at) || d.Down() != (m.limit == 0) {
		t.Fatalf("%v: %d sectors, %d pending, down %v", told, d.Len(), d.Pending(), d.Down())
	}
	image := d.Image()
	if len(image) != m.n*64 {
		t.Fatalf("%v: an image of %d bytes", told, len(image))
	}
	for i := range image {
		if image[i] != m.durable[i] {
			t.Fatalf("%v: byte %d is %d, not %d", told, i, image[i], m.durable[i])
		}
	}
	for i := range m.n {
		if b, err := d.Read(i); err != nil || !bytes.Equal(b, m.read(i)) {
			t.Fatalf("%v: sector %d is % x, %v", told, i, b, err)
		}
	}
}

// A step is a call of a device and of its model, and what both answer.
type step struct {
	name string
	do   func(d *Device, m *model) (error, error)
}

func writeStep(i int, b []byte) step {
	return step{"Write " + strconv.Itoa(i), func(d *Device, m *model) (error, error) { return d.Write(i, b), m.write(i, b) }}
}

func flushStep() step {
	return step{"Flush", func(d *Device, m *model) (error, error) { return d.Flush(), m.flush() }}
}

func stopStep(after int) step {
	return step{"Stop " + strconv.Itoa(after), func(d *Device, m *model) (error, error) {
		d.Stop(after)
		m.stop(after)
		return nil, nil
	}}
}

func crashStep(kept uint64, torn, cut int) step {
	name := "Crash " + strconv.FormatUint(kept, 16) + " " + strconv.Itoa(torn) + " " + strconv.Itoa(cut)
	return step{name, func(d *Device, m *model) (error, error) {
		d.Crash(kept, torn, cut)
		m.crash(kept, torn, cut)
		return nil, nil
	}}
}

// run does steps one behind the other, and holds the device against its model behind each that look asks for.
func run(t *testing.T, n int, steps []step, look func(k int) bool) {
	t.Helper()
	d, err := New(n)
	must(t, err)
	m := &model{n: n, durable: map[int]byte{}, limit: -1}
	var told []string
	for k, s := range steps {
		told = append(told, s.name)
		if got, want := s.do(d, m); got != want {
			t.Fatalf("%v: %v, not %v", told, got, want)
		}
		if look(k) {
			m.held(t, d, told)
		}
	}
}

func TestAllOrdersOfFewSteps(t *testing.T) {
	some := []step{writeStep(0, rising(1)), writeStep(1, fill(2)), writeStep(1, fill(3)), writeStep(0, fill(4)[:63]), flushStep(), stopStep(0), stopStep(2), crashStep(0, -1, 0), crashStep(2, 0, 10)}
	var longer func(steps []step)
	longer = func(steps []step) {
		run(t, 2, steps, func(k int) bool { return k == len(steps)-1 })
		if len(steps) == 5 {
			return
		}
		for _, s := range some {
			longer(append(slices.Clone(steps), s))
		}
	}
	longer(nil)
}

// numbers is a row of numbers that look thrown, the same each time.
func numbers(seed uint64) func(below int) int {
	return func(below int) int {
		seed = seed*6364136223846793005 + 1442695040888963407
		return int(seed >> 33 % uint64(below))
	}
}

func TestLongOrders(t *testing.T) {
	for seed := range uint64(60) {
		next := numbers(seed)
		n := 1 + next(6)
		var steps []step
		for range 300 {
			b := fill(byte(next(256)))
			b[next(64)]++
			switch kind := next(40); {
			case kind == 0:
				steps = append(steps, writeStep(next(n+3)-1, b[:62+next(3)]))
			case kind == 1:
				steps = append(steps, stopStep(next(40)-2))
			case kind < 5:
				steps = append(steps, crashStep(uint64(next(1<<30))<<34|uint64(next(1<<30)), next(40)-2, next(400)-200))
			case kind < 10:
				steps = append(steps, flushStep())
			default:
				steps = append(steps, writeStep(next(n), b))
			}
		}
		run(t, n, steps, func(int) bool { return true })
	}
}

func TestLongOrdersWithManyPending(t *testing.T) {
	for seed := range uint64(30) {
		next := numbers(seed + 1000)
		n := 1 + next(9)
		var steps []step
		for k := range 600 {
			if k%150 == 149 {
				steps = append(steps, crashStep(uint64(next(1<<30))<<34|uint64(next(1<<30)), next(170)-10, next(400)-200))
			} else {
				steps = append(steps, writeStep(next(n), fill(byte(next(256)))))
			}
		}
		run(t, n, steps, func(k int) bool { return k%150 >= 148 })
	}
}

// P7.1: the chapter's example.

func TestExample(t *testing.T) {
	d, _ := New(1)
	must(t, d.Write(0, fill(1)))
	if b, _ := d.Read(0); !bytes.Equal(b, fill(1)) {
		t.Errorf("a pending write is read as % x", b)
	}
	d.Crash(0, -1, 0)
	if b, _ := d.Read(0); !bytes.Equal(b, fill(0)) {
		t.Errorf("behind the Crash there is % x", b)
	}
}
