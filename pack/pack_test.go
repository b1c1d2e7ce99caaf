package pack

import (
	"bytes"
	"math"
	"slices"
	"strings"
	"testing"

	"tidewater/api"
)

// great is the greatest number that may be written, and so a most that refuses none.
const great = 1<<62 - 1

// bytesOf is a number's bytes, made as the chapter's words tell it.
func bytesOf(n int) string {
	if n < 128 {
		return string([]byte{byte(n)})
	}
	return string([]byte{byte(128 + n%128)}) + bytesOf(n/128)
}

// edges is numbers beside each power of two, and so beside each length, rising.
func edges() []int {
	var list []int
	for k := range 62 {
		list = append(list, 1<<k-1, 1<<k, 1<<k+1)
	}
	list = append(list, great-1, great)
	slices.Sort(list)
	return slices.Compact(list)
}

// wrong is numbers that can't be written.
var wrong = []int{-1, math.MinInt, -128, -great, great + 1, great + 2, math.MaxInt}

// done tells of an Out whose Done isn't that.
func done(t *testing.T, o *Out, want string, wantErr error, what string) {
	t.Helper()
	b, err := o.Done()
	if string(b) != want || err != wantErr {
		t.Fatalf("%s: Done answers %d bytes: %.20x, %v; not %d bytes: %.20x, %v", what, len(b), b, err, len(want), want, wantErr)
	}
	if err != nil && b != nil {
		t.Fatalf("%s: Done answers bytes beside %v", what, err)
	}
}

// P4.1: Out.

func TestNothingWritten(t *testing.T) {
	var o Out
	done(t, &o, "", nil, "a zero value")
	o.Nums(nil)
	done(t, &o, "\x00", nil, "a list of none")
}

func TestNumWrittenKnown(t *testing.T) {
	for _, c := range []struct {
		n    int
		want string
	}{
		{0, "\x00"}, {1, "\x01"}, {127, "\x7f"}, {128, "\x80\x01"}, {129, "\x81\x01"}, {255, "\xff\x01"}, {256, "\x80\x02"}, {300, "\xac\x02"},
		{16383, "\xff\x7f"}, {16384, "\x80\x80\x01"}, {65536, "\x80\x80\x04"}, {1<<56 - 1, "\xff\xff\xff\xff\xff\xff\xff\x7f"},
		{1 << 56, "\x80\x80\x80\x80\x80\x80\x80\x80\x01"}, {1 << 61, "\x80\x80\x80\x80\x80\x80\x80\x80\x20"},
		{great, "\xff\xff\xff\xff\xff\xff\xff\xff\x3f"}, {great - 1, "\xfe\xff\xff\xff\xff\xff\xff\xff\x3f"},
	} {
		var o Out
		o.Num(c.n)
		done(t, &o, c.want, nil, "one number")
	}
}

func TestNumWrittenOfAll(t *testing.T) {
	held := func(n int) {
		var o Out
		o.Num(n)
		done(t, &o, bytesOf(n), nil, "one number")
	}
	for n := range 70000 {
		held(n)
	}
	for _, n := range edges() {
		held(n)
	}
}

func TestWrongNumbersWritten(t *testing.T) {
	for _, n := range wrong {
		for what, write := range map[string]func(o *Out){
			"alone":          func(o *Out) { o.Num(n) },
			"behind others":  func(o *Out) { o.Num(1); o.Text("a"); o.Num(n) },
			"ahead of them":  func(o *Out) { o.Num(n); o.Num(1); o.Text("a"); o.Nums([]int{1}) },
			"twice":          func(o *Out) { o.Num(n); o.Num(n) },
			"in a list":      func(o *Out) { o.Nums([]int{n}) },
			"last in a list": func(o *Out) { o.Nums([]int{1, 2, n}) },
			"first of a list": func(o *Out) {
				o.Nums([]int{n, 1, 2})
				o.Nums(nil)
			},
		} {
			var o Out
			write(&o)
			done(t, &o, "", api.ErrRange, what)
			o.Num(0)
			done(t, &o, "", api.ErrRange, what+", and written behind it")
		}
	}
}

func TestTextWritten(t *testing.T) {
	for _, s := range []string{
		"", "a", "ab", "\x00", "\xff\x80", "aä€", strings.Repeat("a", 127), strings.Repeat("a", 128), strings.Repeat("ä", 64),
		strings.Repeat("\x80", 300), strings.Repeat("x", 16383), strings.Repeat("x", 16384),
	} {
		var o Out
		o.Text(s)
		done(t, &o, bytesOf(len(s))+s, nil, "one text")
	}
}

func TestNumsWritten(t *testing.T) {
	for _, c := range []struct {
		list []int
		want string
	}{
		{nil, "\x00"}, {[]int{}, "\x00"}, {[]int{0}, "\x01\x00"}, {[]int{1, 2}, "\x02\x01\x02"}, {[]int{300, 0, 127}, "\x03\xac\x02\x00\x7f"},
		{[]int{3, 2, 3}, "\x03\x03\x02\x03"}, {[]int{great}, "\x01\xff\xff\xff\xff\xff\xff\xff\xff\x3f"},
		{make([]int, 128), "\x80\x01" + strings.Repeat("\x00", 128)},
	} {
		var o Out
		given := slices.Clone(c.list)
		o.Nums(c.list)
		if !slices.Equal(c.list, given) {
			t.Fatalf("Nums has made %v of %v", c.list, given)
		}
		clear(c.list)
		done(t, &o, c.want, nil, "one list")
	}
}

// A written is something that an Out writes, its bytes, and how an In reads it: asked with mosts that are just enough, and with ones that are one too few.
type written struct {
	write func(o *Out)
	bytes string
	same  func(i *In) bool
	few   func(i *In) bool // whether the answer is a zero value
	wrong bool             // whether it can't be written
}

func num(n int) written {
	w := written{write: func(o *Out) { o.Num(n) }, wrong: n < 0 || n > great}
	w.same = func(i *In) bool { return i.Num(n) == n }
	w.few = func(i *In) bool { return i.Num(n-1) == 0 }
	if !w.wrong {
		w.bytes = bytesOf(n)
	}
	return w
}

func text(s string) written {
	return written{
		write: func(o *Out) { o.Text(s) }, bytes: bytesOf(len(s)) + s,
		same: func(i *In) bool { return i.Text(len(s)) == s },
		few:  func(i *In) bool { return i.Text(len(s)-1) == "" },
	}
}

func nums(list ...int) written {
	w := written{write: func(o *Out) { o.Nums(list) }, bytes: bytesOf(len(list))}
	most := 0
	for _, n := range list {
		part := num(n)
		w.bytes, w.wrong, most = w.bytes+part.bytes, w.wrong || part.wrong, max(most, n)
	}
	w.same = func(i *In) bool { return slices.Equal(i.Nums(len(list), most), list) }
	w.few = func(i *In) bool { return i.Nums(len(list)-1, most) == nil }
	return w
}

// rows is all rows of up to n of a list's things.
func rows[T any](list []T, n int) [][]T {
	all := [][]T{nil}
	last := all
	for range n {
		var longer [][]T
		for _, row := range last {
			for _, x := range list {
				longer = append(longer, append(slices.Clone(row), x))
			}
		}
		all, last = append(all, longer...), longer
	}
	return all
}

func TestWrittenInEveryOrder(t *testing.T) {
	parts := []written{num(0), num(300), num(great), num(-1), text(""), text("ab\xff"), text(strings.Repeat("y", 200)), nums(), nums(1, 16384), nums(5, great+1, 5)}
	for _, row := range rows(parts, 4) {
		var o Out
		want, wantErr := "", error(nil)
		for _, part := range row {
			part.write(&o)
			want += part.bytes
			if part.wrong {
				wantErr = api.ErrRange
			}
			if wantErr != nil {
				want = ""
			}
			done(t, &o, want, wantErr, "a row of writes")
		}
	}
}

// filled is an Out with so many bytes, and they.
func filled(size int) (*Out, string) {
	var o Out
	o.Text(strings.Repeat("z", size-3)) // three bytes tell of how many: from 16384 on
	return &o, bytesOf(size-3) + strings.Repeat("z", size-3)
}

func TestDoneIsLong(t *testing.T) {
	for size := 65530; size <= 65536; size++ {
		o, b := filled(size)
		done(t, o, b, nil, "a text")
		room := 65536 - size
		for range room {
			o.Num(7)
		}
		done(t, o, b+strings.Repeat("\x07", room), nil, "as many as may be")
		o.Num(7)
		done(t, o, "", api.ErrLong, "one more")
	}
	for _, n := range edges() {
		size := len(bytesOf(n))
		o, b := filled(65536 - size)
		o.Num(n)
		done(t, o, b+bytesOf(n), nil, "a number that has room")
		o, _ = filled(65536 - size + 1)
		o.Num(n)
		done(t, o, "", api.ErrLong, "a number that hasn't room")
	}
	for _, size := range []int{65537, 65538, 70000, 1 << 20} {
		o, _ := filled(size)
		done(t, o, "", api.ErrLong, "a long text")
	}
}

func TestDoneIsLongByTextsAndLists(t *testing.T) {
	o, b := filled(65533)
	o.Text("ab")
	done(t, o, b+"\x02ab", nil, "a text that has room")
	o, b = filled(65533)
	o.Nums([]int{1, 2})
	done(t, o, b+"\x02\x01\x02", nil, "a list that has room")
	o, _ = filled(65534)
	o.Text("ab")
	done(t, o, "", api.ErrLong, "a text that hasn't room")
	o, _ = filled(65534)
	o.Nums([]int{1, 2})
	done(t, o, "", api.ErrLong, "a list that hasn't room")
	o, b = filled(65535)
	o.Text("")
	done(t, o, b+"\x00", nil, "an empty text that has room")
	o, b = filled(65535)
	o.Nums(nil)
	done(t, o, b+"\x00", nil, "an empty list that has room")
	var list Out
	list.Nums(make([]int, 65533))
	done(t, &list, bytesOf(65533)+strings.Repeat("\x00", 65533), nil, "a list of as many as may be")
	list.Nums(make([]int, 65536))
	done(t, &list, "", api.ErrLong, "a list of more")
}

func TestLongStays(t *testing.T) {
	for _, part := range []written{num(0), num(great), text(""), text("ab"), nums(), nums(1)} {
		o, _ := filled(65536)
		o.Text("ab")
		part.write(o)
		done(t, o, "", api.ErrLong, "written behind too many")
	}
	// What hasn't room isn't left out, so that what is behind it fits.
	var o Out
	o.Num(1)
	o.Text(strings.Repeat("z", 65536))
	o.Num(2)
	done(t, &o, "", api.ErrLong, "a number behind a long text")
}

func TestWrongNumberIsAheadOfLong(t *testing.T) {
	for _, part := range []written{num(-1), num(great + 1), nums(1, -1, 1)} {
		o, _ := filled(65536)
		part.write(o)
		done(t, o, "", api.ErrRange, "a wrong number behind as many as may be")
		o.Text("ab")
		done(t, o, "", api.ErrRange, "and a text")
		o, _ = filled(70000)
		done(t, o, "", api.ErrLong, "a long text")
		part.write(o)
		done(t, o, "", api.ErrRange, "a wrong number behind it")
		var first Out
		part.write(&first)
		first.Text(strings.Repeat("z", 70000))
		done(t, &first, "", api.ErrRange, "a long text behind a wrong number")
	}
	var o Out
	o.Nums(append(make([]int, 70000), -1))
	done(t, &o, "", api.ErrRange, "a long list with a wrong number at its end")
}

func TestDoneIsTheCallersOwn(t *testing.T) {
	var o Out
	for n := range 200 {
		o.Num(n)
		first, _ := o.Done()
		clear(first[:cap(first)])
		second, err := o.Done()
		if err != nil || second[0] != 0 || n > 0 && second[1] != 1 {
			t.Fatalf("a change of an answer shows in the next one: %x", second)
		}
		held := bytes.Clone(second)
		o.Text("xyz")
		_ = append(second, "abc"...)
		third, _ := o.Done()
		if !bytes.Equal(second, held) || !bytes.Equal(third, append(held, "\x03xyz"...)) {
			t.Fatalf("an answer and the next one are one: %x, %x, %x", held, second, third)
		}
		o = Out{}
		for m := range n + 1 {
			o.Num(m)
		}
	}
}

// P4.1: In.

// modelNum is a number's value and size, or its error, told from what stands where: the place of its last byte goes first.
func modelNum(b string) (int, int, error) {
	at := strings.IndexByte(high(b), '0')
	switch {
	case at < 0 && len(b) < 9:
		return 0, 0, api.ErrShort
	case at < 0 || at > 8:
		return 0, 0, api.ErrForm
	}
	n := 0
	for k := at; k >= 0; k-- {
		n = n*128 + int(b[k])%128
	}
	if n > great || bytesOf(n) != b[:at+1] {
		return 0, 0, api.ErrForm
	}
	return n, at + 1, nil
}

// high is each byte's highest bit, as a digit.
func high(b string) string {
	var s strings.Builder
	for _, x := range []byte(b) {
		s.WriteByte('0' + x/128)
	}
	return s.String()
}

// readNum holds one Num, of bytes and a most, against the model.
func readNum(t *testing.T, b string, most int) {
	t.Helper()
	n, size, err := modelNum(b)
	if err == nil && n > most {
		n, err = 0, api.ErrRange
	}
	i := Read([]byte(b))
	if got := i.Num(most); got != n || i.Err() != err || i.Left() != len(b)-size {
		t.Fatalf("%x: Num(%d) answers %d, %v, with %d left; not %d, %v, %d", b, most, got, i.Err(), i.Left(), n, err, len(b)-size)
	}
}

func TestNumReadKnown(t *testing.T) {
	full := strings.Repeat("\xff", 8)
	zeros := strings.Repeat("\x80", 8)
	for _, c := range []struct {
		b       string
		most, n int
		err     error
		left    int
	}{
		{"\x00", 0, 0, nil, 0}, {"\x00", great, 0, nil, 0}, {"\x7f", 127, 127, nil, 0}, {"\x80\x01", 128, 128, nil, 0}, {"\xac\x02", 300, 300, nil, 0},
		{"\xac\x02\x05", 300, 300, nil, 1}, {"\x05\xac\x02", 5, 5, nil, 2}, {full + "\x3f", great, great, nil, 0}, {full + "\x3fab", math.MaxInt, great, nil, 2},
		{full[:7] + "\x7f", great, 1<<56 - 1, nil, 0}, {zeros + "\x01", great, 1 << 56, nil, 0}, {zeros + "\x20z", great, 1 << 61, nil, 1},
		// The bytes end.
		{"", 9, 0, api.ErrShort, 0}, {"\x80", 9, 0, api.ErrShort, 1}, {"\xff\xff", 9, 0, api.ErrShort, 2}, {zeros, great, 0, api.ErrShort, 8}, {full, great, 0, api.ErrShort, 8},
		{"\x80", -1, 0, api.ErrShort, 1}, {"", -1, 0, api.ErrShort, 0},
		// None of the first nine is its last one.
		{full + "\xff", great, 0, api.ErrForm, 9}, {zeros + "\x80", great, 0, api.ErrForm, 9}, {zeros + "\x80\x00", great, 0, api.ErrForm, 10},
		{zeros + "\x80\x01", great, 0, api.ErrForm, 10}, {full + "\xff\x01abc", 0, 0, api.ErrForm, 13}, {zeros + "\x81", -1, 0, api.ErrForm, 9},
		// Not as few as can be.
		{"\x80\x00", 9, 0, api.ErrForm, 2}, {"\x81\x00", 9, 0, api.ErrForm, 2}, {"\xff\x00", 9, 0, api.ErrForm, 2}, {"\x80\x80\x00a", 9, 0, api.ErrForm, 4},
		{"\xff\x80\x00", 0, 0, api.ErrForm, 3}, {full + "\x00", great, 0, api.ErrForm, 9}, {zeros + "\x00", great, 0, api.ErrForm, 9}, {"\x81\x00", -1, 0, api.ErrForm, 2},
		// Above all that may be.
		{zeros + "\x40", math.MaxInt, 0, api.ErrForm, 9}, {full + "\x40", math.MaxInt, 0, api.ErrForm, 9}, {full + "\x7f", math.MaxInt, 0, api.ErrForm, 9}, {zeros + "\x60z", 0, 0, api.ErrForm, 10},
		// Above the most.
		{"\x01", 0, 0, api.ErrRange, 0}, {"\x00", -1, 0, api.ErrRange, 0}, {"\x00", math.MinInt, 0, api.ErrRange, 0}, {"\xac\x02", 299, 0, api.ErrRange, 0},
		{"\xac\x02ab", 0, 0, api.ErrRange, 2}, {full + "\x3f", great - 1, 0, api.ErrRange, 0}, {full + "\x3fz", 300, 0, api.ErrRange, 1},
	} {
		i := Read([]byte(c.b))
		if n := i.Num(c.most); n != c.n || i.Err() != c.err || i.Left() != c.left {
			t.Errorf("%x: Num(%d) answers %d, %v, with %d left; not %d, %v, %d", c.b, c.most, n, i.Err(), i.Left(), c.n, c.err, c.left)
		}
		readNum(t, c.b, c.most)
	}
}

func TestNumReadOfAllShortBytes(t *testing.T) {
	mosts := []int{-1, 0, 1, 127, 128, 5000, great, math.MaxInt}
	for x := range 256 {
		for y := range 256 {
			b := string([]byte{byte(x), byte(y)})
			for _, most := range mosts {
				readNum(t, b, most)
				readNum(t, b+"\x00", most)
				readNum(t, b+"\x01\xff", most)
				readNum(t, b+"\x80\x80", most)
			}
		}
	}
	for _, bytes := range rows([]byte("\x00\x01\x3f\x7f\x80\xc0\xff"), 5) {
		readNum(t, string(bytes), great)
	}
}

func TestNumReadOfAllLongBytes(t *testing.T) {
	for _, first := range []string{strings.Repeat("\x80", 10), strings.Repeat("\xff", 10), strings.Repeat("\xd5", 10)} {
		for size := range len(first) + 1 {
			readNum(t, first[:size], great)
			for x := range 256 {
				for _, behind := range []string{"", "\x00", "\x01", "\x80\x00", "\xff\xff\xff"} {
					readNum(t, first[:size]+string([]byte{byte(x)})+behind, great)
					readNum(t, first[:size]+string([]byte{byte(x)})+behind, 1000)
				}
			}
		}
	}
}

func TestNumReadOfEdges(t *testing.T) {
	for _, n := range edges() {
		for _, most := range []int{n - 1, n, n + 1, great, math.MaxInt, 0, -1} {
			readNum(t, bytesOf(n), most)
			readNum(t, bytesOf(n)+"ab", most)
		}
	}
}

func TestTextReadKnown(t *testing.T) {
	for _, c := range []struct {
		b    string
		most int
		want string
		err  error
		left int
	}{
		{"\x00", 0, "", nil, 0}, {"\x00ab", 5, "", nil, 2}, {"\x02ab", 2, "ab", nil, 0}, {"\x02abc", 2, "ab", nil, 1}, {"\x02abc", great, "ab", nil, 1},
		{"\x03\x00\xff\x80", 3, "\x00\xff\x80", nil, 0}, {"\x80\x01" + strings.Repeat("q", 129), 128, strings.Repeat("q", 128), nil, 1},
		// The number's error; ErrRange is ahead of bytes that aren't there.
		{"", 5, "", api.ErrShort, 0}, {"\x81", 5, "", api.ErrShort, 1}, {"\x82\x00ab", 5, "", api.ErrForm, 4}, {strings.Repeat("\xff", 9) + "a", great, "", api.ErrForm, 10},
		{"\x02ab", 1, "", api.ErrRange, 2}, {"\x00", -1, "", api.ErrRange, 0}, {"\x02a", 1, "", api.ErrRange, 1}, {"\x7f", 126, "", api.ErrRange, 0},
		// Fewer bytes left: the number is read.
		{"\x01", 5, "", api.ErrShort, 0}, {"\x02a", 2, "", api.ErrShort, 1}, {"\x80\x01" + strings.Repeat("q", 127), 128, "", api.ErrShort, 127},
		{strings.Repeat("\xff", 8) + "\x3fabc", great, "", api.ErrShort, 3},
	} {
		i := Read([]byte(c.b))
		if s := i.Text(c.most); s != c.want || i.Err() != c.err || i.Left() != c.left {
			t.Errorf("%x: Text(%d) answers %q, %v, with %d left; not %q, %v, %d", c.b, c.most, s, i.Err(), i.Left(), c.want, c.err, c.left)
		}
	}
}

func TestNumsReadKnown(t *testing.T) {
	full := strings.Repeat("\xff", 8) + "\x3f"
	for _, c := range []struct {
		b          string
		many, most int
		want       []int
		err        error
		left       int
	}{
		{"\x00", 0, 0, nil, nil, 0}, {"\x00", 0, -1, nil, nil, 0}, {"\x00\x01", great, great, nil, nil, 1}, {"\x01\x00", 1, 0, []int{0}, nil, 0},
		{"\x02\x01\x02", 2, 2, []int{1, 2}, nil, 0}, {"\x03\x02\x02\x01\x07", 3, 2, []int{2, 2, 1}, nil, 1}, {"\x02\xac\x02\x00\xff", 9, 300, []int{300, 0}, nil, 1},
		{"\x01" + full, 1, great, []int{great}, nil, 0},
		// The number's error of how many; ErrRange is ahead of numbers that aren't there.
		{"", 5, 5, nil, api.ErrShort, 0}, {"\x82", 5, 5, nil, api.ErrShort, 1}, {"\x81\x00\x01", 5, 5, nil, api.ErrForm, 3}, {"\x02\x01\x02", 1, 5, nil, api.ErrRange, 2},
		{"\x02", 1, 5, nil, api.ErrRange, 0}, {"\x00", -1, 5, nil, api.ErrRange, 0},
		// Theirs, the first one's.
		{"\x01", 5, 5, nil, api.ErrShort, 0}, {"\x02\x01", 5, 5, nil, api.ErrShort, 0}, {"\x02\x01\x80", 5, 5, nil, api.ErrShort, 1}, {"\x02\x01\x81\x00", 5, 5, nil, api.ErrForm, 2},
		{"\x02\x01\x06\x01", 5, 5, nil, api.ErrRange, 1}, {"\x02\x06\x80\x00", 5, 5, nil, api.ErrRange, 2}, {"\x05\x06", 5, 5, nil, api.ErrRange, 0}, {"\x01\x00", 5, -1, nil, api.ErrRange, 0},
		{"\x03\x01" + strings.Repeat("\x80", 9), 3, 3, nil, api.ErrForm, 9},
		// Far more told than there are.
		{full, great, great, nil, api.ErrShort, 0}, {full + "\x01\x02", great, great, nil, api.ErrShort, 0}, {full + "\x01\x03\x02", great, 2, nil, api.ErrRange, 1},
	} {
		i := Read([]byte(c.b))
		if list := i.Nums(c.many, c.most); !slices.Equal(list, c.want) || i.Err() != c.err || i.Left() != c.left {
			t.Errorf("%x: Nums(%d, %d) answers %v, %v, with %d left; not %v, %v, %d", c.b, c.many, c.most, list, i.Err(), i.Left(), c.want, c.err, c.left)
		}
	}
}

// A model is a reader that holds where it stands in a text.
type model struct {
	b   string
	at  int
	err error
}

func (m *model) num(most int) int {
	if m.err != nil {
		return 0
	}
	n, size, err := modelNum(m.b[m.at:])
	m.at += size
	if err == nil && n > most {
		n, err = 0, api.ErrRange
	}
	m.err = err
	return n
}

func (m *model) text(most int) string {
	size := m.num(most)
	if m.err == nil && size > len(m.b)-m.at {
		m.err = api.ErrShort
	}
	if m.err != nil {
		return ""
	}
	m.at += size
	return m.b[m.at-size : m.at]
}

func (m *model) nums(many, most int) []int {
	var list []int
	for count := m.num(many); count > 0 && m.err == nil; count-- {
		list = append(list, m.num(most))
	}
	if m.err != nil {
		return nil
	}
	return list
}

// A reading is a call of an In, and whether it answers what the model does.
type reading struct {
	what string
	same func(i *In, m *model) bool
}

var readings = []reading{
	{"Num(0)", func(i *In, m *model) bool { return i.Num(0) == m.num(0) }},
	{"Num(2)", func(i *In, m *model) bool { return i.Num(2) == m.num(2) }},
	{"Num(great)", func(i *In, m *model) bool { return i.Num(great) == m.num(great) }},
	{"Text(0)", func(i *In, m *model) bool { return i.Text(0) == m.text(0) }},
	{"Text(1)", func(i *In, m *model) bool { return i.Text(1) == m.text(1) }},
	{"Text(great)", func(i *In, m *model) bool { return i.Text(great) == m.text(great) }},
	{"Nums(1, 1)", func(i *In, m *model) bool { return slices.Equal(i.Nums(1, 1), m.nums(1, 1)) }},
	{"Nums(2, great)", func(i *In, m *model) bool { return slices.Equal(i.Nums(2, great), m.nums(2, great)) }},
	{"Nums(great, 2)", func(i *In, m *model) bool { return slices.Equal(i.Nums(great, 2), m.nums(great, 2)) }},
}

// questions holds Left, Err and End against the model, each asked twice, as no question is to change an answer.
func questions(i *In, m *model) bool {
	end := m.err
	if end == nil && m.at < len(m.b) {
		end = api.ErrForm
	}
	for range 2 {
		if i.Left() != len(m.b)-m.at || i.End() != end || i.Err() != m.err {
			return false
		}
	}
	return true
}

func TestReadInEveryOrder(t *testing.T) {
	orders := rows(readings, 3)
	for _, letters := range rows([]byte("\x00\x01\x02\x7f\x80\xff"), 4) {
		b := string(letters)
		for _, order := range orders {
			i, m := Read([]byte(b)), &model{b: b}
			if !questions(i, m) {
				t.Fatalf("%x: a question ahead of all calls isn't answered right", b)
			}
			for _, r := range order {
				if !r.same(i, m) || !questions(i, m) {
					t.Fatalf("%x: %s, in a row of %d calls, isn't answered right", b, r.what, len(order))
				}
			}
		}
	}
}

func TestFirstErrorStays(t *testing.T) {
	for _, c := range []struct {
		b    string
		fail func(i *In)
		err  error
		left int
	}{
		{"\x80", func(i *In) { i.Num(9) }, api.ErrShort, 1},
		{"\x80\x00\x01\x01", func(i *In) { i.Num(9) }, api.ErrForm, 4},
		{"\x05\x01\x01", func(i *In) { i.Num(4) }, api.ErrRange, 2},
		{"\x05\x01\x01", func(i *In) { i.Text(4) }, api.ErrRange, 2},
		{"\x05\x01\x01", func(i *In) { i.Text(5) }, api.ErrShort, 2},
		{"\x05\x01\x01", func(i *In) { i.Nums(4, 4) }, api.ErrRange, 2},
		{"\x02\x06\x01\x01", func(i *In) { i.Nums(4, 4) }, api.ErrRange, 2},
	} {
		i := Read([]byte(c.b))
		c.fail(i)
		for range 2 {
			if n, s, list := i.Num(great), i.Text(great), i.Nums(great, great); n != 0 || s != "" || list != nil {
				t.Errorf("%x, behind %v: the calls answer %d, %q, %v", c.b, c.err, n, s, list)
			}
			i.Num(-1) // another error, if it were read
			i.Text(-1)
			i.Nums(-1, -1)
			if i.Err() != c.err || i.End() != c.err || i.Left() != c.left {
				t.Errorf("%x: the questions answer %v, %v, %d; not %v, %d", c.b, i.Err(), i.End(), i.Left(), c.err, c.left)
			}
		}
	}
}

func TestEnd(t *testing.T) {
	for _, b := range []string{"", "\x01", "\x01\x02"} {
		i := Read([]byte(b))
		for n := range len(b) {
			if i.End() != api.ErrForm || i.Err() != nil || i.Left() != len(b)-n {
				t.Errorf("%x, with %d read: End answers %v, Err %v, Left %d", b, n, i.End(), i.Err(), i.Left())
			}
			if got := i.Num(2); got != n+1 {
				t.Errorf("%x: Num behind End answers %d, not %d", b, got, n+1)
			}
		}
		if i.End() != nil || i.Err() != nil || i.Left() != 0 {
			t.Errorf("%x, all read: End answers %v, Err %v, Left %d", b, i.End(), i.Err(), i.Left())
		}
	}
	if i := Read(nil); i.End() != nil || i.Err() != nil || i.Left() != 0 {
		t.Errorf("of no bytes End answers %v, Err %v, Left %d", i.End(), i.Err(), i.Left())
	}
}

func TestReadNeitherKeepsNorChangesBytes(t *testing.T) {
	const given = "\x05\x02ab\x02\x01\xac\x02\x07"
	b := append(make([]byte, 0, 40), given...)
	i := Read(b)
	n := i.Num(9)
	s := i.Text(9)
	if string(b) != given {
		t.Fatalf("the bytes are now %x", b)
	}
	for at := range b {
		b[at] = 0x80
	}
	if list := i.Nums(9, 300); n != 5 || s != "ab" || !slices.Equal(list, []int{1, 300}) || i.Num(9) != 7 || i.End() != nil {
		t.Errorf("a change of the bytes shows: %d, %q, %v, %v", n, s, list, i.End())
	}
}

func TestNumsAreTheCallersOwn(t *testing.T) {
	i := Read([]byte("\x02\x01\x02\x02\x03\x04"))
	first := i.Nums(2, 4)
	second := i.Nums(2, 4)
	clear(first[:cap(first)])
	if !slices.Equal(second, []int{3, 4}) {
		t.Errorf("a change of a list shows in the next one: %v", second)
	}
}

func TestTwoReadersAreTwo(t *testing.T) {
	b := []byte("\x01\x02\x80")
	one, other := Read(b), Read(b)
	one.Num(9)
	one.Num(0)
	if one.Err() != api.ErrRange || other.Err() != nil || other.Left() != 3 || other.Num(9) != 1 || other.Num(9) != 2 {
		t.Errorf("one reader's calls show in the other one: %v, %v, %d", one.Err(), other.Err(), other.Left())
	}
}

// P4.2.

func TestWrittenIsReadTheSame(t *testing.T) {
	parts := []written{num(0), num(127), num(128), num(great), text(""), text("ab\x80\xff"), text(strings.Repeat("ä", 70)), nums(), nums(0), nums(7, 300, 7), nums(great, 1)}
	for _, row := range rows(parts, 4) {
		var o Out
		for _, part := range row {
			part.write(&o)
		}
		b, err := o.Done()
		if err != nil {
			t.Fatal(err)
		}
		i := Read(b)
		for _, part := range row {
			behind := *i
			if !part.few(&behind) || behind.Err() != api.ErrRange {
				t.Fatalf("%x: with a most that is one too few the error is %v", b, behind.Err())
			}
			if !part.same(i) {
				t.Fatalf("%x isn't read the same: %v", b, i.Err())
			}
		}
		if i.End() != nil {
			t.Fatalf("%x: End answers %v", b, i.End())
		}
	}
}

func TestAllNumbersAreReadTheSame(t *testing.T) {
	list := edges()
	for n := range 20000 {
		list = append(list, n)
	}
	var o Out
	o.Nums(list)
	b, err := o.Done()
	if err != nil {
		t.Fatal(err)
	}
	i := Read(b)
	if got := i.Nums(len(list), great); !slices.Equal(got, list) || i.End() != nil {
		t.Errorf("%d numbers aren't read the same: %d, %v", len(list), len(got), i.End())
	}
}

func TestWrittenIsReadTheSameAtItsLongest(t *testing.T) {
	o, _ := filled(65536)
	b, err := o.Done()
	if err != nil {
		t.Fatal(err)
	}
	i := Read(b)
	if s := i.Text(65533); s != strings.Repeat("z", 65533) || i.End() != nil {
		t.Errorf("a text of %d bytes is read, %v", len(s), i.End())
	}
	var pairs Out
	for n := range 10000 {
		pairs.Text(string([]byte{byte(n), byte(n >> 8)}))
		pairs.Num(n)
	}
	b, err = pairs.Done()
	if err != nil {
		t.Fatal(err)
	}
	i = Read(b)
	for n := range 10000 {
		if i.Text(2) != string([]byte{byte(n), byte(n >> 8)}) || i.Num(n) != n {
			t.Fatalf("pair %d isn't read the same: %v", n, i.Err())
		}
	}
	if i.End() != nil {
		t.Errorf("End answers %v", i.End())
	}
}

// Read itself takes bytes of any length, though Out doesn't write them.
func TestReadOfLongBytes(t *testing.T) {
	i := Read(append([]byte("\x80\x80\x10"), make([]byte, 1<<18)...))
	if s := i.Text(1 << 18); len(s) != 1<<18 || i.End() != nil {
		t.Errorf("a text of %d bytes is read, %v", len(s), i.End())
	}
}
