package runes

import (
	"math"
	"slices"
	"strings"
	"testing"

	"tidewater/api"
)

// The greatest rune, and the greatest text of one.
const (
	top     = 0x10ffff
	topText = "\U0010ffff"
)

// wrong is texts that aren't right, each by one fault.
var wrong = []string{
	"\x80", "\xbf", "\xff", "\xfe", "\xf8\x88\x80\x80\x80", // no rune's first byte
	"a\xff", "\xffa", "a\x80b", "ä\x80",
	"\xc3", "\xe2\x82", "\xf0\x9f\x98", "a\xc3", "\xe2\x82a", "\xc3\xc3\xa4", // not whole
	"\xc0\x80", "\xc1\xbf", "\xe0\x80\x80", "\xe0\x9f\xbf", "\xf0\x80\x80\x80", "\xf0\x8f\xbf\xbf", // not the shortest form
	"\xed\xa0\x80", "\xed\xad\xbf", "\xed\xb0\x80", "\xed\xbf\xbf", "\xed\xa0\xbd\xed\xb8\x80", // surrogates
	"\xf4\x90\x80\x80", "\xf5\x80\x80\x80", "\xf7\xbf\xbf\xbf", // above the greatest
	"\ufffd\xff", "\xef\xbf", // beside the rune that stands for a fault, or a piece of it
}

// encode is a rune's bytes, made by hand so that the tests don't lean on what the package leans on.
func encode(r int) string {
	switch {
	case r < 0x80:
		return string([]byte{byte(r)})
	case r < 0x800:
		return string([]byte{0xc0 | byte(r>>6), 0x80 | byte(r&63)})
	case r < 0x10000:
		return string([]byte{0xe0 | byte(r>>12), 0x80 | byte(r>>6&63), 0x80 | byte(r&63)})
	}
	return string([]byte{0xf0 | byte(r>>18), 0x80 | byte(r>>12&63), 0x80 | byte(r>>6&63), 0x80 | byte(r&63)})
}

// decode is a text's runes, and whether it is right, by hand too.
func decode(s string) ([]int, bool) {
	var list []int
	for s != "" {
		r, size := int(s[0]), 1
		switch {
		case s[0] >= 0xf0:
			r, size = int(s[0])-0xf0, 4
		case s[0] >= 0xe0:
			r, size = int(s[0])-0xe0, 3
		case s[0] >= 0x80:
			r, size = int(s[0])-0xc0, 2
		}
		if r < 0 || len(s) < size {
			return nil, false
		}
		for _, b := range []byte(s[1:size]) {
			r = r<<6 | int(b&63)
		}
		if r > top || r >= 0xd800 && r < 0xe000 || encode(r) != s[:size] {
			return nil, false
		}
		list = append(list, r)
		s = s[size:]
	}
	return list, true
}

// text is runes as a text.
func text(list ...int) string {
	var s strings.Builder
	for _, r := range list {
		s.WriteString(encode(r))
	}
	return s.String()
}

// edges is runes that stand at some edge, rising.
var edges = []int{0, 1, 0x1f, 0x20, 'a', 'b', 0x7e, 0x7f, 0x80, 0x7ff, 0x800, 0xd7fe, 0xd7ff, 0xe000, 0xe001, 0xfffd, 0xfffe, 0xffff, 0x10000, 0x10fffe, top}

// samples is all texts of up to two of the edges, and some of three.
func samples() []string {
	list := []string{""}
	for _, x := range edges {
		list = append(list, text(x))
		for _, y := range edges {
			list = append(list, text(x, y), text(x, y, top), text(top, x, y))
		}
	}
	slices.Sort(list)
	return slices.Compact(list)
}

// P2.1: Right and Count.

// held holds Right and Count of a text against what decode says.
func held(t *testing.T, s string) {
	t.Helper()
	list, right := decode(s)
	want := len(list)
	if !right {
		want = -1
	}
	if Right(s) != right || Count(s) != want {
		t.Fatalf("%x: Right answers %v, Count %d, not %v, %d", s, Right(s), Count(s), right, want)
	}
}

func TestCountKnown(t *testing.T) {
	for _, c := range []struct {
		s    string
		want int
	}{
		{"", 0}, {"a", 1}, {"aä", 2}, {"aä€", 3}, {"a b", 3}, {"\x00", 1}, {"\ufffd", 1}, {"😀\u0301", 2}, {topText, 1},
		{"\ud7ff\ue000", 2}, {strings.Repeat("€", 5000), 5000},
	} {
		if got := Count(c.s); got != c.want || !Right(c.s) {
			t.Errorf("Count(%q) = %d, not %d; Right answers %v", c.s, got, c.want, Right(c.s))
		}
	}
}

func TestRightOfWrongTexts(t *testing.T) {
	for _, s := range wrong {
		for _, w := range []string{s, s + "z", strings.Repeat("ä", 5000) + s} {
			if Right(w) || Count(w) != -1 {
				t.Errorf("%x: Right answers %v, Count %d", s, Right(w), Count(w))
			}
		}
	}
}

func TestRightOfAllRunes(t *testing.T) {
	for r := range 0x200000 {
		s := encode(r)
		right := r <= top && (r < 0xd800 || r > 0xdfff)
		if Right(s) != right || (Count(s) == 1) != right {
			t.Fatalf("U+%04X: Right answers %v, Count %d", r, Right(s), Count(s))
		}
	}
}

func TestRightOfAllShortBytes(t *testing.T) {
	for x := range 256 {
		held(t, string([]byte{byte(x)}))
		for y := range 256 {
			held(t, string([]byte{byte(x), byte(y)}))
		}
	}
	bytes := []byte("\x00\x1f a\x7f\x80\x8f\x90\x9f\xa0\xbf\xc0\xc1\xc2\xdf\xe0\xe1\xec\xed\xee\xef\xf0\xf1\xf3\xf4\xf5\xf7\xf8\xff")
	for _, w := range bytes {
		for _, x := range bytes {
			for _, y := range bytes {
				held(t, string([]byte{w, x, y}))
				for _, z := range bytes {
					held(t, string([]byte{w, x, y, z}))
				}
			}
		}
	}
}

// P2.1: Key.

func TestKey(t *testing.T) {
	long := strings.Repeat("€", api.MaxKey)
	for _, c := range []struct {
		s    string
		want error
	}{
		{"a", nil}, {" ", nil}, {"~", nil}, {"\u0080", nil}, {"\u009f", nil}, {"\ufffd", nil}, {topText, nil}, {"a b\"\\", nil},
		{strings.Repeat("a", api.MaxKey), nil}, {long, nil}, {strings.Repeat(topText, api.MaxKey), nil},
		{"", api.ErrShort},
		{long + "a", api.ErrLong}, {strings.Repeat("a", api.MaxKey+1), api.ErrLong}, {strings.Repeat("ä", 70000), api.ErrLong},
		{"\x00", api.ErrName}, {"\x1f", api.ErrName}, {"\x7f", api.ErrName}, {"a\nb", api.ErrName}, {"\tab", api.ErrName}, {"ä\x7f", api.ErrName},
		{strings.Repeat("a", api.MaxKey-1) + "\x7f", api.ErrName},
		{strings.Repeat("\n", api.MaxKey+1), api.ErrLong}, {long + "\x7f", api.ErrLong},
	} {
		if got := Key(c.s); got != c.want {
			t.Errorf("Key(%q) answers %v, not %v", c.s, got, c.want)
		}
	}
}

func TestKeyOfWrongTexts(t *testing.T) {
	for _, s := range wrong {
		for _, w := range []string{s, "\n" + s, strings.Repeat("a", api.MaxKey+1) + s} {
			if got := Key(w); got != api.ErrRune {
				t.Errorf("Key(%q) answers %v", w, got)
			}
		}
	}
}

func TestKeyOfAllRunes(t *testing.T) {
	for r := range top + 1 {
		if r >= 0xd800 && r < 0xe000 {
			continue
		}
		var want error
		if r < 0x20 || r == 0x7f {
			want = api.ErrName
		}
		if got := Key(encode(r)); got != want {
			t.Fatalf("Key of U+%04X answers %v, not %v", r, got, want)
		}
	}
}

// P2.1: First and Rest.

func TestFirstAndRest(t *testing.T) {
	for _, c := range []struct {
		s, first, rest string
		n              int
	}{
		{"", "", "", 0}, {"", "", "", 1}, {"", "", "", -1},
		{"aä€😀", "", "aä€😀", 0}, {"aä€😀", "a", "ä€😀", 1}, {"aä€😀", "aä", "€😀", 2}, {"aä€😀", "aä€", "😀", 3},
		{"aä€😀", "aä€😀", "", 4}, {"aä€😀", "aä€😀", "", 5}, {"aä€😀", "aä€😀", "", math.MaxInt},
		{"aä€😀", "", "aä€😀", -1}, {"aä€😀", "", "aä€😀", math.MinInt},
		{"\ufffd\ufffd", "\ufffd", "\ufffd", 1},
	} {
		if first, rest := First(c.s, c.n), Rest(c.s, c.n); first != c.first || rest != c.rest {
			t.Errorf("of %q and %d: First answers %q, Rest %q", c.s, c.n, first, rest)
		}
	}
}

func TestFirstAndRestOfSamples(t *testing.T) {
	for _, s := range samples() {
		list, _ := decode(s)
		for n := range len(list) + 3 {
			at := min(n, len(list))
			if First(s, n) != text(list[:at]...) || Rest(s, n) != text(list[at:]...) {
				t.Fatalf("of %q and %d: First answers %q, Rest %q", s, n, First(s, n), Rest(s, n))
			}
		}
	}
}

func TestFirstAndRestOfWrongTexts(t *testing.T) {
	for _, s := range wrong {
		for _, n := range []int{math.MinInt, -1, 0, 1, 2, math.MaxInt} {
			if First("ab"+s, n) != "" || Rest("ab"+s, n) != "" {
				t.Errorf("of %q and %d: First answers %q, Rest %q", "ab"+s, n, First("ab"+s, n), Rest("ab"+s, n))
			}
		}
	}
}

// P2.1 and P2.2: Compare.

func TestCompareKnown(t *testing.T) {
	for _, c := range []struct {
		a, b string
		want int
	}{
		{"", "", 0}, {"", "a", -1}, {"a", "", 1}, {"a", "a", 0}, {"", "\x00", -1},
		{"a", "b", -1}, {"ab", "a", 1}, {"ab", "b", -1}, {"B", "a", -1}, {"10", "9", -1},
		{"ä", "z", 1}, {"€", "ä", 1}, {"aä", "a€", -1}, {"\ufffd", "\ufffd", 0},
		{"\uffff", "\U00010000", -1}, {"\ue000", "\U00010000", -1}, {"\ud7ff", "\ue000", -1}, // not as pairs of surrogates are
		{"a\u0301", "á", -1}, {topText, topText + "\x00", -1}, {topText + "a", topText, 1},
	} {
		if got := Compare(c.a, c.b); got != c.want {
			t.Errorf("Compare(%q, %q) = %d, not %d", c.a, c.b, got, c.want)
		}
	}
}

func TestCompareIsTheOrderOfBytesAndOfRunes(t *testing.T) {
	list := samples()
	var runes [][]int
	for _, s := range list {
		r, _ := decode(s)
		runes = append(runes, r)
	}
	for i, a := range list {
		for j, b := range list {
			got := Compare(a, b)
			if got != strings.Compare(a, b) || got != slices.Compare(runes[i], runes[j]) {
				t.Fatalf("Compare(%q, %q) = %d", a, b, got)
			}
		}
	}
}

func TestCompareOfAllRunes(t *testing.T) {
	before := ""
	for r := range top + 1 {
		if r >= 0xd800 && r < 0xe000 {
			continue
		}
		s := encode(r)
		if Compare(before, s) != -1 || Compare(s, before) != 1 || Compare(s, s) != 0 {
			t.Fatalf("U+%04X isn't greater than the rune ahead of it", r)
		}
		before = s
	}
}

func TestCompareAndCommonOfWrongTexts(t *testing.T) {
	for _, w := range wrong {
		for _, c := range [][2]string{{"ab", "ab" + w}, {"ab" + w, "ab"}, {"z" + w, "z" + w}, {"", w}, {w, ""}, {"az", "ab" + w}, {"ab" + w, "aa"}} {
			if got := Compare(c[0], c[1]); got != 0 {
				t.Errorf("Compare(%q, %q) = %d", c[0], c[1], got)
			}
			if got := Common(c[0], c[1]); got != 0 {
				t.Errorf("Common(%q, %q) = %d", c[0], c[1], got)
			}
		}
	}
}

// P2.1: Common.

func TestCommon(t *testing.T) {
	for _, c := range []struct {
		a, b string
		want int
	}{
		{"", "", 0}, {"", "a", 0}, {"a", "b", 0}, {"a", "a", 1}, {"ab", "ac", 1}, {"ab", "abc", 2}, {"abcd", "abxd", 2},
		{"aä€", "aä€", 3}, {"aä€", "aä😀", 2}, {"ä", "ö", 0}, {"aä", "aö", 1}, {"\ufffd", "\ufffda", 1}, {"xab", "ab", 0}, {" a", "  a", 1},
	} {
		if Common(c.a, c.b) != c.want || Common(c.b, c.a) != c.want {
			t.Errorf("Common(%q, %q) = %d and %d, not %d", c.a, c.b, Common(c.a, c.b), Common(c.b, c.a), c.want)
		}
	}
}

func TestCommonOfSamples(t *testing.T) {
	list := samples()
	for i := range len(list) - 1 {
		for _, b := range list[i:] {
			a := list[i]
			n := Common(a, b)
			if First(a, n) != First(b, n) || Common(b, a) != n {
				t.Fatalf("Common(%q, %q) = %d", a, b, n)
			}
			if n < Count(a) && n < Count(b) && First(a, n+1) == First(b, n+1) {
				t.Fatalf("Common(%q, %q) = %d, too few", a, b, n)
			}
		}
	}
}

// P2.1: After.

func TestAfterKnown(t *testing.T) {
	for _, c := range []struct{ s, want string }{
		{"", ""}, {"ab", "ac"}, {"a", "b"}, {"\x00", "\x01"}, {"~", "\x7f"}, {"\x7f", "\u0080"}, {"\u07ff", "\u0800"}, {"\uffff", "\U00010000"},
		{"\ud7ff", "\ue000"}, {"a\ud7ff", "a\ue000"}, {"\ud7fe", "\ud7ff"}, {"\ud7ff" + topText, "\ue000"}, {"\ud7ffa", "\ud7ffb"},
		{topText, ""}, {topText + topText, ""}, {"a" + topText, "b"}, {"ab" + topText + topText, "ac"},
		{topText + "a", topText + "b"}, {topText + "a" + topText, topText + "b"}, {"\U0010fffe", topText}, {"€ä", "€å"}, {"\ufffd", "\ufffe"},
	} {
		if got := After(c.s); got != c.want {
			t.Errorf("After(%q) = %q, not %q", c.s, got, c.want)
		}
	}
}

func TestAfterIsTheLeastOne(t *testing.T) {
	list := samples()
	for _, s := range list {
		after := After(s)
		for _, other := range list {
			behind := other > s && !strings.HasPrefix(other, s)
			if behind != (after != "" && other >= after) {
				t.Fatalf("After(%q) = %q, but of %q it is %v that it is behind all", s, after, other, behind)
			}
		}
	}
}

func TestAfterOfAllRunes(t *testing.T) {
	for r := range top {
		if r >= 0xd800 && r < 0xe000 {
			continue
		}
		want := r + 1
		if r == 0xd7ff {
			want = 0xe000
		}
		if got := After(encode(r)); got != encode(want) {
			t.Fatalf("After of U+%04X = %q", r, got)
		}
	}
}

func TestAfterOfWrongTexts(t *testing.T) {
	for _, s := range wrong {
		if After(s) != "" || After("a"+s) != "" {
			t.Errorf("After(%q) = %q, and behind an a %q", s, After(s), After("a"+s))
		}
	}
}

// P2.1: Fields.

func TestFields(t *testing.T) {
	for _, c := range []struct {
		s    string
		want []string
	}{
		{"", nil}, {" ", nil}, {"   ", nil}, {"a", []string{"a"}}, {"  a b ", []string{"a", "b"}}, {"a  b", []string{"a", "b"}},
		{"aä €", []string{"aä", "€"}}, {"get 1 \"a\"", []string{"get", "1", "\"a\""}},
		{"a\tb\nc\r\v\fd", []string{"a\tb\nc\r\v\fd"}}, {"\u00a0a\u2003b\u3000", []string{"\u00a0a\u2003b\u3000"}}, {"\t \n", []string{"\t", "\n"}}, // no other blank parts
		{"\x00 \ufffd", []string{"\x00", "\ufffd"}},
	} {
		if got := Fields(c.s); !slices.Equal(got, c.want) {
			t.Errorf("Fields(%q) = %q, not %q", c.s, got, c.want)
		}
	}
}

func TestFieldsJoined(t *testing.T) {
	parts := []string{"a", "ä€", topText, "\n", "b"}
	for n := range len(parts) + 1 {
		for many := 1; many < 4; many++ {
			gap := strings.Repeat(" ", many)
			s := gap + strings.Join(parts[:n], gap) + gap
			if got := Fields(s); !slices.Equal(got, parts[:n]) {
				t.Errorf("Fields(%q) = %q", s, got)
			}
		}
	}
}

func TestFieldsOfWrongTexts(t *testing.T) {
	for _, s := range wrong {
		for _, w := range []string{s, "a b " + s, s + " a"} {
			if got := Fields(w); len(got) != 0 {
				t.Errorf("Fields(%q) = %q", w, got)
			}
		}
	}
}

func TestFieldsAreTheCallersOwn(t *testing.T) {
	first := Fields("a b c")
	clear(first[:cap(first)])
	if got := Fields("a b c"); !slices.Equal(got, []string{"a", "b", "c"}) {
		t.Errorf("a change of an answer shows in the next one: %q", got)
	}
}
