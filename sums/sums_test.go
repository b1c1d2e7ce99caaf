package sums

import (
	"bytes"
	"hash/crc32"
	"math"
	"testing"

	"tidewater/api"
)

// text is n bytes that look like nothing in particular, the same each time.
func text(n int) []byte {
	b := make([]byte, n)
	x := uint32(2463534242)
	for i := range b {
		x ^= x << 13
		x ^= x >> 17
		x ^= x << 5
		b[i] = byte(x >> 11)
	}
	return b
}

// frameOf is a frame that must be made.
func frameOf(t *testing.T, b []byte) []byte {
	t.Helper()
	f, err := Frame(b)
	if err != nil {
		t.Fatalf("Frame of %d bytes: %v", len(b), err)
	}
	return f
}

// refused tells of bytes that Open doesn't refuse by that error.
func refused(t *testing.T, b []byte, want error, what string) {
	t.Helper()
	body, rest, err := Open(b)
	if err != want || body != nil || rest != nil {
		t.Errorf("%s: Open answers %x, %x, %v, not %v", what, body, rest, err, want)
	}
}

// P1.1: Sum.

func TestSumKnown(t *testing.T) {
	for _, c := range []struct {
		b    string
		want uint32
	}{
		{"", 0},
		{"a", 0xe8b7be43},
		{"123456789", 0xcbf43926},
		{"\x00", 0xd202ef8d},
		{"\xff\xff\xff\xff", 0xffffffff},
	} {
		if got := Sum([]byte(c.b)); got != c.want {
			t.Errorf("Sum(%q) = %08x, not %08x", c.b, got, c.want)
		}
	}
}

func TestSumAllBytesAndLengths(t *testing.T) {
	for x := range 256 {
		b := []byte{byte(x)}
		if got, want := Sum(b), crc32.ChecksumIEEE(b); got != want {
			t.Errorf("Sum(%x) = %08x, not %08x", b, got, want)
		}
	}
	all := text(5000)
	for n := range len(all) {
		if got, want := Sum(all[:n]), crc32.ChecksumIEEE(all[:n]); got != want {
			t.Fatalf("Sum of %d bytes = %08x, not %08x", n, got, want)
		}
	}
}

func TestSumOfParts(t *testing.T) {
	if Sum() != 0 || Sum(nil) != 0 || Sum(nil, []byte{}, nil) != 0 {
		t.Error("the sum of no bytes isn't 0")
	}
	b := text(40)
	want := crc32.ChecksumIEEE(b)
	var single [][]byte
	for i := range b {
		single = append(single, b[i:i+1])
		for j := i; j < len(b); j++ {
			if got := Sum(b[:i], nil, b[i:j], b[j:], []byte{}); got != want {
				t.Fatalf("Sum cut at %d and %d = %08x, not %08x", i, j, got, want)
			}
		}
	}
	if got := Sum(single...); got != want {
		t.Errorf("Sum byte by byte = %08x, not %08x", got, want)
	}
}

// P1.1: Size and Frame.

func TestSize(t *testing.T) {
	for _, c := range []struct{ n, want int }{
		{math.MinInt, 0}, {-6, 0}, {-1, 0},
		{0, 6}, {1, 7}, {256, 262}, {api.MaxPage - 1, api.MaxPage + 5}, {api.MaxPage, api.MaxPage + 6},
		{api.MaxPage + 1, 0}, {65536, 0}, {math.MaxInt, 0},
	} {
		if got := Size(c.n); got != c.want {
			t.Errorf("Size(%d) = %d, not %d", c.n, got, c.want)
		}
	}
}

func TestFrameLayout(t *testing.T) {
	for _, n := range []int{0, 1, 2, 255, 256, 257, api.MaxPage - 1, api.MaxPage} {
		b := text(n)
		length := []byte{byte(n), byte(n >> 8)}
		s := crc32.ChecksumIEEE(append(bytes.Clone(length), b...))
		want := append(bytes.Clone(length), byte(s), byte(s>>8), byte(s>>16), byte(s>>24))
		want = append(want, b...)
		got := frameOf(t, b)
		if !bytes.Equal(got, want) {
			t.Errorf("the frame of %d bytes is %x, not %x", n, got, want)
		}
		if len(got) != Size(n) {
			t.Errorf("the frame of %d bytes has %d, Size tells %d", n, len(got), Size(n))
		}
	}
	if got := frameOf(t, nil); !bytes.Equal(got, frameOf(t, []byte{})) {
		t.Errorf("the frame of nil is %x", got)
	}
}

func TestFrameTooLong(t *testing.T) {
	for _, n := range []int{api.MaxPage + 1, 65535, 65536, 65537} {
		if f, err := Frame(make([]byte, n)); err != api.ErrLong || f != nil {
			t.Errorf("Frame of %d bytes answers %d bytes, %v", n, len(f), err)
		}
	}
}

// P1.1: Open.

func TestOpenRest(t *testing.T) {
	f := frameOf(t, []byte("ab"))
	for _, behind := range [][]byte{nil, {0}, {9, 8, 7}, f, text(70000)} {
		b, rest, err := Open(append(bytes.Clone(f), behind...))
		if err != nil || string(b) != "ab" || !bytes.Equal(rest, behind) {
			t.Errorf("with %d bytes behind: %q, %d bytes, %v", len(behind), b, len(rest), err)
		}
	}
}

func TestOpenShort(t *testing.T) {
	for n := range headBytes {
		refused(t, make([]byte, n), api.ErrShort, "fewer than 6 noughts")
		refused(t, bytes.Repeat([]byte{0xff}, n), api.ErrShort, "fewer than 6, that tell too many")
	}
	refused(t, nil, api.ErrShort, "nil")
	for _, size := range []int{1, 2, 300, api.MaxPage} {
		f := frameOf(t, text(size))
		for n := range f {
			refused(t, f[:n], api.ErrShort, "a frame's beginning")
		}
		f[2] ^= 1
		refused(t, f[:len(f)-1], api.ErrShort, "a frame's beginning with a wrong sum")
	}
}

func TestOpenLong(t *testing.T) {
	for _, n := range []int{api.MaxPage + 1, api.MaxPage + 255, 0x1000, 0x8000, 0xffff} {
		whole := append([]byte{byte(n), byte(n >> 8), 0, 0, 0, 0}, text(n)...)
		putSum(whole)
		refused(t, whole, api.ErrLong, "too many, whole")
		refused(t, whole[:headBytes], api.ErrLong, "too many, not whole")
		whole[2] ^= 1
		refused(t, whole, api.ErrLong, "too many, with a wrong sum")
	}
}

// putSum makes a frame's sum right.
func putSum(f []byte) {
	s := crc32.NewIEEE()
	s.Write(f[:lengthBytes])
	s.Write(f[headBytes:])
	x := s.Sum32()
	copy(f[lengthBytes:], []byte{byte(x), byte(x >> 8), byte(x >> 16), byte(x >> 24)})
}

func TestOpenSum(t *testing.T) {
	refused(t, make([]byte, headBytes), api.ErrSum, "six noughts")
	b := []byte("page")
	f := frameOf(t, b)
	s := crc32.ChecksumIEEE(b)
	copy(f[2:], []byte{byte(s), byte(s >> 8), byte(s >> 16), byte(s >> 24)})
	refused(t, f, api.ErrSum, "a sum without the length")
	f = frameOf(t, b)
	f[2], f[3], f[4], f[5] = f[5], f[4], f[3], f[2]
	refused(t, f, api.ErrSum, "a sum with the high byte first")
	f = frameOf(t, b)
	f[0]--
	refused(t, f, api.ErrSum, "a lesser length")
	f[0] += 2
	refused(t, append(f, 0), api.ErrSum, "a greater length")
}

// What is handed in isn't changed, and what is answered shares nothing with it.

func TestNothingShared(t *testing.T) {
	b := text(50)
	kept := bytes.Clone(b)
	f := frameOf(t, b)
	b[0] ^= 1
	if body, _, err := Open(f); err != nil || !bytes.Equal(body, kept) {
		t.Error("a change of what was framed shows in the frame")
	}
	f[10] ^= 1
	b[0] ^= 1
	if !bytes.Equal(b, kept) {
		t.Error("a change of the frame shows in what was framed")
	}
	in := append(frameOf(t, b), text(30)...)
	held := bytes.Clone(in)
	body, rest, err := Open(in)
	if err != nil || !bytes.Equal(in, held) {
		t.Fatalf("Open changes what it is handed, or answers %v", err)
	}
	clear(in)
	if !bytes.Equal(body, kept) || !bytes.Equal(rest, text(30)) {
		t.Error("a change of what was opened shows in the answers")
	}
	_ = append(body, bytes.Repeat([]byte{1}, 60)...)
	clear(body[:cap(body)])
	if !bytes.Equal(rest, text(30)) {
		t.Error("the answers share memory")
	}
}

func TestSumAndFrameLeaveTheirArguments(t *testing.T) {
	whole := text(60)
	kept := bytes.Clone(whole)
	Sum(whole[:20], whole[20:])
	frameOf(t, whole[:20])
	if !bytes.Equal(whole, kept) {
		t.Error("Sum or Frame changes what it is handed")
	}
}

// P1.2.

func TestFramedIsOpened(t *testing.T) {
	all := text(api.MaxPage)
	for n := range api.MaxPage + 1 {
		b, rest, err := Open(frameOf(t, all[:n]))
		if err != nil || !bytes.Equal(b, all[:n]) || len(rest) != 0 {
			t.Fatalf("%d bytes: %x, %x, %v", n, b, rest, err)
		}
	}
	for _, b := range [][]byte{make([]byte, 100), bytes.Repeat([]byte{0xff}, api.MaxPage), frameOf(t, all[:99])} {
		if got, _, err := Open(frameOf(t, b)); err != nil || !bytes.Equal(got, b) {
			t.Errorf("%x: %x, %v", b, got, err)
		}
	}
}

// turned is f with the bits of the pattern turned from bit at on, the low bit of each byte first.
func turned(f []byte, at int, pattern uint32) []byte {
	f = bytes.Clone(f)
	for i := range 32 {
		if pattern>>i&1 == 1 {
			f[(at+i)/8] ^= 1 << ((at + i) % 8)
		}
	}
	return f
}

// patterns is ways to turn some of many bits, the first and the last among them.
func patterns(many int) []uint32 {
	all := uint32(1)<<many - 1
	ends := uint32(1)<<(many-1) | 1
	list := []uint32{all, ends}
	for _, x := range []uint32{0x55555555, 0x33333333, 0x12345678, 0xedb88320, 0x04c11db7} {
		list = append(list, x&all|ends)
	}
	return list
}

func TestTurnedBits(t *testing.T) {
	for _, n := range []int{0, 1, 4, 5, 33} {
		f := frameOf(t, text(n))
		for many := 1; many <= 32; many++ {
			for at := lengthBytes * 8; at+many <= headBytes*8; at++ {
				for _, p := range patterns(many) {
					refused(t, turned(f, at, p), api.ErrSum, "a sum with turned bits")
				}
			}
			for at := headBytes * 8; at+many <= len(f)*8; at++ {
				for _, p := range patterns(many) {
					refused(t, turned(f, at, p), api.ErrSum, "a text with turned bits")
				}
			}
		}
	}
}

func TestTurnedBitsOfTheLongest(t *testing.T) {
	f := frameOf(t, text(api.MaxPage))
	for _, at := range []int{0, 1, 7, 8, api.MaxPage * 4, api.MaxPage*8 - 32} {
		for _, many := range []int{1, 2, 31, 32} {
			for _, p := range patterns(many) {
				refused(t, turned(f, headBytes*8+at, p), api.ErrSum, "a long text with turned bits")
			}
		}
	}
}

// The same for whole runs with the high bit of each byte first.
func TestTurnedRunsHighBitFirst(t *testing.T) {
	f := frameOf(t, text(20))
	for many := 1; many <= 32; many++ {
		for _, part := range [][2]int{{lengthBytes, headBytes}, {headBytes, len(f)}} {
			for at := part[0] * 8; at+many <= part[1]*8; at++ {
				g := bytes.Clone(f)
				for i := range many {
					g[(at+i)/8] ^= 0x80 >> ((at + i) % 8)
				}
				refused(t, g, api.ErrSum, "a run of turned bits")
			}
		}
	}
}
