package span

import (
	"slices"
	"strings"
	"testing"

	"tidewater/api"
	"tidewater/runes"
)

// keys is right keys that stand at some edge, rising, written in their order by hand: the least one is the first, the greatest one the last.
var keys = []string{
	" ", "  ", "!", "0", "10", "9", "A", "Z", "a", "a ", "aa", "ab", "aä", "b", "m", "~", "\u0080", "ä", "€",
	"\ud7ff", "\ue000", "\ufffd", "\uffff", "\U00010000", top, top + " ", greatest,
}

const top = "\U0010ffff"

// greatest is the greatest key: MaxKey greatest runes.
const greatest = top + top + top + top + top + top + top + top + top + top + top + top +
	top + top + top + top + top + top + top + top + top + top + top + top

// wrong is texts that are no keys (nor empty), each with layer 2's error.
var wrong = []struct {
	s    string
	want error
}{
	{"\xff", api.ErrRune}, {"a\xff", api.ErrRune}, {"\xc0\x80", api.ErrRune}, {"\xed\xa0\x80", api.ErrRune}, {"\n\xff", api.ErrRune},
	{strings.Repeat("a", api.MaxKey+1), api.ErrLong}, {greatest + " ", api.ErrLong}, {strings.Repeat("\n", api.MaxKey+1), api.ErrLong},
	{"\x00", api.ErrName}, {"\x1f", api.ErrName}, {"\x7f", api.ErrName}, {"a\nb", api.ErrName}, {"ä\x7f", api.ErrName},
}

// endless is the place of "" as a Hi. Place 0 is "" as a Lo, place i+1 is keys[i]: whole numbers, so that the tests don't lean on an order of texts.
var endless = len(keys) + 1

// text is the text of a place.
func text(place int) string {
	if place == 0 || place == endless {
		return ""
	}
	return keys[place-1]
}

// spanOf is the span from a place up to another one.
func spanOf(lo, hi int) api.Span { return api.Span{Lo: text(lo), Hi: text(hi)} }

// places is the places of a span's Lo and Hi.
type places struct{ lo, hi int }

// rightPlaces is the places of all right spans of the keys.
func rightPlaces() []places {
	var list []places
	for lo := range endless {
		for hi := lo + 1; hi <= endless; hi++ {
			list = append(list, places{lo, hi})
		}
	}
	return list
}

// wrongSpans is spans that aren't right, for each cause.
func wrongSpans() []api.Span {
	var list []api.Span
	for lo := 1; lo < endless; lo++ {
		for hi := 1; hi <= lo; hi++ {
			list = append(list, spanOf(lo, hi))
		}
	}
	for _, w := range wrong {
		for _, s := range []string{"", " ", "a", "m", greatest} {
			list = append(list, api.Span{Lo: s, Hi: w.s}, api.Span{Lo: w.s, Hi: s})
		}
		list = append(list, api.Span{Lo: w.s, Hi: w.s})
	}
	return list
}

func TestKeysOfTheTestsRise(t *testing.T) {
	for i, key := range keys {
		if err := runes.Key(key); err != nil {
			t.Errorf("%q is no key: %v", key, err)
		}
		if i > 0 && strings.Compare(keys[i-1], key) >= 0 {
			t.Errorf("%q isn't less than %q", keys[i-1], key)
		}
	}
	for _, w := range wrong {
		if err := runes.Key(w.s); err != w.want {
			t.Errorf("Key(%q) answers %v, not %v", w.s, err, w.want)
		}
	}
}

// P3.1: Right.

func TestRightKnown(t *testing.T) {
	for _, c := range []struct {
		s    api.Span
		want bool
	}{
		{api.Span{}, true}, {api.Span{Lo: "a"}, true}, {api.Span{Hi: "a"}, true}, {api.Span{Lo: "a", Hi: "b"}, true},
		{api.Span{Hi: " "}, true}, {api.Span{Lo: greatest}, true}, {api.Span{Lo: "a", Hi: "a "}, true},
		{api.Span{Lo: "a", Hi: "a"}, false}, {api.Span{Lo: "b", Hi: "a"}, false}, {api.Span{Lo: "ab", Hi: "a"}, false},
		{api.Span{Lo: "10", Hi: "9"}, true}, {api.Span{Lo: "a", Hi: "B"}, false},
		{api.Span{Lo: "\uffff", Hi: "\U00010000"}, true}, {api.Span{Lo: "\U00010000", Hi: "\uffff"}, false}, // not as pairs of surrogates are
		{api.Span{Lo: "\n"}, false}, {api.Span{Hi: "\n"}, false}, {api.Span{Lo: "\x7f"}, false}, {api.Span{Hi: "\x7f"}, false},
		{api.Span{Lo: "\xff"}, false}, {api.Span{Hi: "\xff"}, false}, {api.Span{Lo: "a", Hi: "b\xff"}, false},
		{api.Span{Hi: strings.Repeat("ä", api.MaxKey)}, true}, {api.Span{Hi: strings.Repeat("ä", api.MaxKey+1)}, false},
		{api.Span{Lo: strings.Repeat("ä", api.MaxKey)}, true}, {api.Span{Lo: strings.Repeat("ä", api.MaxKey+1)}, false},
	} {
		if got := Right(c.s); got != c.want {
			t.Errorf("Right(%q) = %v", c.s, got)
		}
	}
}

func TestRightOfAll(t *testing.T) {
	for _, p := range rightPlaces() {
		if s := spanOf(p.lo, p.hi); !Right(s) {
			t.Errorf("%q isn't right", s)
		}
	}
	for _, s := range wrongSpans() {
		if Right(s) {
			t.Errorf("%q is right", s)
		}
	}
}

// P3.1: Has.

func TestHas(t *testing.T) {
	for _, p := range rightPlaces() {
		s := spanOf(p.lo, p.hi)
		for i, key := range keys {
			want := p.lo <= i+1 && i+1 < p.hi
			if got := Has(s, key); got != want {
				t.Fatalf("Has(%q, %q) = %v", s, key, got)
			}
		}
	}
}

func TestHasOfWrongOnes(t *testing.T) {
	for _, p := range rightPlaces() {
		s := spanOf(p.lo, p.hi)
		if Has(s, "") {
			t.Errorf("Has(%q, no key) = true", s)
		}
		for _, w := range wrong {
			if Has(s, w.s) {
				t.Errorf("Has(%q, %q) = true", s, w.s)
			}
		}
	}
	for _, s := range wrongSpans() {
		for _, key := range append([]string{"", s.Lo, s.Hi}, keys...) {
			if Has(s, key) {
				t.Fatalf("Has(%q, %q) = true", s, key)
			}
		}
	}
}

// P3.1 and P3.2: Cut.

// notCut tells of a Cut that isn't refused by that error.
func notCut(t *testing.T, s api.Span, key string, want error) {
	t.Helper()
	a, b, err := Cut(s, key)
	if err != want || a != (api.Span{}) || b != (api.Span{}) {
		t.Fatalf("Cut(%q, %q) answers %q, %q, %v, not %v", s, key, a, b, err, want)
	}
}

func TestCutKnown(t *testing.T) {
	for _, c := range []struct {
		s    api.Span
		key  string
		a, b api.Span
	}{
		{api.Span{}, "m", api.Span{Hi: "m"}, api.Span{Lo: "m"}},
		{api.Span{}, " ", api.Span{Hi: " "}, api.Span{Lo: " "}}, // the first part has no keys, but is a right span
		{api.Span{Lo: "a", Hi: "z"}, "a ", api.Span{Lo: "a", Hi: "a "}, api.Span{Lo: "a ", Hi: "z"}},
		{api.Span{Lo: "a"}, greatest, api.Span{Lo: "a", Hi: greatest}, api.Span{Lo: greatest}},
		{api.Span{Lo: "\ud7ff", Hi: "\U00010000"}, "\uffff", api.Span{Lo: "\ud7ff", Hi: "\uffff"}, api.Span{Lo: "\uffff", Hi: "\U00010000"}},
	} {
		if a, b, err := Cut(c.s, c.key); a != c.a || b != c.b || err != nil {
			t.Errorf("Cut(%q, %q) answers %q, %q, %v", c.s, c.key, a, b, err)
		}
	}
}

func TestCutOfAll(t *testing.T) {
	for _, p := range rightPlaces() {
		s := spanOf(p.lo, p.hi)
		for at := 1; at < endless; at++ {
			if at <= p.lo || at >= p.hi {
				notCut(t, s, text(at), api.ErrRange)
				continue
			}
			a, b, err := Cut(s, text(at))
			if a != spanOf(p.lo, at) || b != spanOf(at, p.hi) || err != nil {
				t.Fatalf("Cut(%q, %q) answers %q, %q, %v", s, text(at), a, b, err)
			}
		}
	}
}

func TestKeysAreInOnePartOfACut(t *testing.T) {
	for _, p := range rightPlaces() {
		s := spanOf(p.lo, p.hi)
		for at := p.lo + 1; at < p.hi; at++ {
			a, b, err := Cut(s, text(at))
			if err != nil || !Right(a) || !Right(b) {
				t.Fatalf("Cut(%q, %q) answers %q, %q, %v", s, text(at), a, b, err)
			}
			for _, key := range keys {
				inA, inB := Has(a, key), Has(b, key)
				if inA && inB || (inA || inB) != Has(s, key) {
					t.Fatalf("%q, cut at %q: of %q, %v in one part, %v in the other", s, text(at), key, inA, inB)
				}
			}
			if _, is := Meet(a, b); is {
				t.Fatalf("%q, cut at %q: the parts meet", s, text(at))
			}
			if j, err := Join(b, a); j != s || err != nil {
				t.Fatalf("%q, cut at %q: Join answers %q, %v", s, text(at), j, err)
			}
		}
	}
}

func TestCutOfWrongOnes(t *testing.T) {
	for _, s := range wrongSpans() {
		for _, key := range []string{"a", "m", s.Lo, s.Hi, "", "\xff", "\n", strings.Repeat("a", api.MaxKey+1)} {
			notCut(t, s, key, api.ErrForm)
		}
	}
	for _, p := range rightPlaces() {
		s := spanOf(p.lo, p.hi)
		notCut(t, s, "", api.ErrShort)
		for _, w := range wrong {
			notCut(t, s, w.s, w.want)
		}
	}
}

// P3.1: Join.

func TestJoinKnown(t *testing.T) {
	for _, c := range []struct {
		a, b, want api.Span
		err        error
	}{
		{api.Span{Hi: "m"}, api.Span{Lo: "m"}, api.Span{}, nil},
		{api.Span{Lo: "a", Hi: "b"}, api.Span{Lo: "b", Hi: "c"}, api.Span{Lo: "a", Hi: "c"}, nil},
		{api.Span{Hi: " "}, api.Span{Lo: " ", Hi: "a"}, api.Span{Hi: "a"}, nil},
		{api.Span{}, api.Span{}, api.Span{}, api.ErrRange}, // an end that is none isn't the other one's Lo
		{api.Span{Lo: "m"}, api.Span{Hi: "a"}, api.Span{}, api.ErrRange},
		{api.Span{Lo: "m"}, api.Span{}, api.Span{}, api.ErrRange},
		{api.Span{Hi: "m"}, api.Span{}, api.Span{}, api.ErrRange},
		{api.Span{Hi: "m"}, api.Span{Lo: "n"}, api.Span{}, api.ErrRange},
		{api.Span{Hi: "n"}, api.Span{Lo: "m"}, api.Span{}, api.ErrRange},
		{api.Span{Hi: "m"}, api.Span{Lo: "m "}, api.Span{}, api.ErrRange},
		{api.Span{Lo: "a", Hi: "b"}, api.Span{Lo: "a", Hi: "b"}, api.Span{}, api.ErrRange},
		{api.Span{Lo: "a", Hi: "c"}, api.Span{Lo: "b", Hi: "c"}, api.Span{}, api.ErrRange},
	} {
		for _, two := range [][2]api.Span{{c.a, c.b}, {c.b, c.a}} {
			if got, err := Join(two[0], two[1]); got != c.want || err != c.err {
				t.Errorf("Join(%q, %q) answers %q, %v", two[0], two[1], got, err)
			}
		}
	}
}

func TestJoinOfAll(t *testing.T) {
	list := rightPlaces()
	for _, p := range list {
		for _, q := range list {
			want, wantErr := api.Span{}, api.ErrRange
			if p.hi == q.lo {
				want, wantErr = spanOf(p.lo, q.hi), nil
			} else if q.hi == p.lo {
				want, wantErr = spanOf(q.lo, p.hi), nil
			}
			a, b := spanOf(p.lo, p.hi), spanOf(q.lo, q.hi)
			if got, err := Join(a, b); got != want || err != wantErr {
				t.Fatalf("Join(%q, %q) answers %q, %v", a, b, got, err)
			}
		}
	}
}

func TestJoinOfWrongOnes(t *testing.T) {
	for _, w := range wrongSpans() {
		for _, s := range []api.Span{{}, {Lo: "m"}, {Hi: "m"}, {Lo: "a", Hi: "b"}, {Lo: w.Hi}, {Hi: w.Lo}, w} {
			for _, two := range [][2]api.Span{{w, s}, {s, w}} {
				if got, err := Join(two[0], two[1]); got != (api.Span{}) || err != api.ErrForm {
					t.Fatalf("Join(%q, %q) answers %q, %v", two[0], two[1], got, err)
				}
			}
		}
	}
}

// P3.1: Meet.

func TestMeetKnown(t *testing.T) {
	for _, c := range []struct {
		a, b, want api.Span
		is         bool
	}{
		{api.Span{}, api.Span{}, api.Span{}, true},
		{api.Span{}, api.Span{Lo: "a", Hi: "b"}, api.Span{Lo: "a", Hi: "b"}, true},
		{api.Span{Lo: "a"}, api.Span{Hi: "b"}, api.Span{Lo: "a", Hi: "b"}, true},
		{api.Span{Lo: "a"}, api.Span{Lo: "b"}, api.Span{Lo: "b"}, true},
		{api.Span{Hi: "a"}, api.Span{Hi: "b"}, api.Span{Hi: "a"}, true},
		{api.Span{Lo: "a", Hi: "m"}, api.Span{Lo: "b", Hi: "z"}, api.Span{Lo: "b", Hi: "m"}, true},
		{api.Span{Lo: "a", Hi: "z"}, api.Span{Lo: "b", Hi: "m"}, api.Span{Lo: "b", Hi: "m"}, true},
		{api.Span{Lo: "a", Hi: "b"}, api.Span{Lo: "a", Hi: "b"}, api.Span{Lo: "a", Hi: "b"}, true},
		{api.Span{Lo: "a", Hi: "b "}, api.Span{Lo: "b"}, api.Span{Lo: "b", Hi: "b "}, true},
		{api.Span{Hi: " "}, api.Span{}, api.Span{Hi: " "}, true}, // right, though no key is in it
		{api.Span{Hi: " "}, api.Span{Lo: " "}, api.Span{}, false},
		{api.Span{Hi: "m"}, api.Span{Lo: "m"}, api.Span{}, false},
		{api.Span{Lo: "a", Hi: "b"}, api.Span{Lo: "c", Hi: "d"}, api.Span{}, false},
		{api.Span{Hi: greatest}, api.Span{Lo: greatest}, api.Span{}, false},
	} {
		for _, two := range [][2]api.Span{{c.a, c.b}, {c.b, c.a}} {
			if got, is := Meet(two[0], two[1]); got != c.want || is != c.is {
				t.Errorf("Meet(%q, %q) answers %q, %v", two[0], two[1], got, is)
			}
		}
	}
}

func TestMeetOfAll(t *testing.T) {
	list := rightPlaces()
	for _, p := range list {
		for _, q := range list {
			lo, hi := max(p.lo, q.lo), min(p.hi, q.hi)
			want, wantIs := api.Span{}, lo < hi
			if wantIs {
				want = spanOf(lo, hi)
			}
			a, b := spanOf(p.lo, p.hi), spanOf(q.lo, q.hi)
			if got, is := Meet(a, b); got != want || is != wantIs {
				t.Fatalf("Meet(%q, %q) answers %q, %v", a, b, got, is)
			}
		}
	}
}

func TestMeetHasTheKeysOfBoth(t *testing.T) {
	list := rightPlaces()
	for i, p := range list {
		for j := i % 7; j < len(list); j += 7 {
			a, b := spanOf(p.lo, p.hi), spanOf(list[j].lo, list[j].hi)
			both, is := Meet(a, b)
			for _, key := range keys {
				if (is && Has(both, key)) != (Has(a, key) && Has(b, key)) {
					t.Fatalf("Meet(%q, %q) answers %q, %v, which is wrong of %q", a, b, both, is, key)
				}
			}
		}
	}
}

func TestMeetOfWrongOnes(t *testing.T) {
	for _, w := range wrongSpans() {
		for _, s := range []api.Span{{}, {Lo: "m"}, {Hi: "m"}, {Lo: "a", Hi: "b"}, {Lo: w.Hi}, {Hi: w.Lo}, w} {
			for _, two := range [][2]api.Span{{w, s}, {s, w}} {
				if got, is := Meet(two[0], two[1]); got != (api.Span{}) || is {
					t.Fatalf("Meet(%q, %q) answers %q, %v", two[0], two[1], got, is)
				}
			}
		}
	}
}

// P3.1: Covers.

// covered holds Covers of all rotations of a list, and of it turned round, against what is wanted.
func covered(t *testing.T, want bool, list ...api.Span) {
	t.Helper()
	turned := slices.Clone(list)
	slices.Reverse(turned)
	for _, row := range [][]api.Span{list, turned} {
		for range max(1, len(row)) {
			if got := Covers(row); got != want {
				t.Fatalf("Covers(%q) = %v", row, got)
			}
			if len(row) > 0 {
				row = append(slices.Clone(row[1:]), row[0])
			}
		}
	}
}

func TestCoversKnown(t *testing.T) {
	all, low, high := api.Span{}, api.Span{Hi: "m"}, api.Span{Lo: "m"}
	covered(t, true, all)
	covered(t, true, low, high)
	covered(t, true, api.Span{Hi: " "}, api.Span{Lo: " "})
	covered(t, true, api.Span{Hi: "a"}, api.Span{Lo: "a", Hi: "b"}, api.Span{Lo: "b"})
	covered(t, true, api.Span{Hi: "10"}, api.Span{Lo: "10", Hi: "9"}, api.Span{Lo: "9"})
	covered(t, true, api.Span{Hi: "\uffff"}, api.Span{Lo: "\uffff", Hi: "\U00010000"}, api.Span{Lo: "\U00010000"})
	covered(t, false)
	covered(t, false, low)
	covered(t, false, high)
	covered(t, false, api.Span{Lo: "a", Hi: "b"})
	covered(t, false, all, all) // each once, though Hi and Lo read the same
	covered(t, false, all, low)
	covered(t, false, all, high)
	covered(t, false, all, low, high)
	covered(t, false, low, high, low, high)
	covered(t, false, low, low, high)
	covered(t, false, low, high, high)
	covered(t, false, api.Span{Hi: "a"}, api.Span{Lo: "b"})                              // a gap
	covered(t, false, api.Span{Hi: "b"}, api.Span{Lo: "a"})                              // keys twice
	covered(t, false, api.Span{Hi: "a"}, api.Span{Lo: "a", Hi: "b"})                     // an end
	covered(t, false, api.Span{Lo: "a", Hi: "b"}, api.Span{Lo: "b"})                     // no beginning
	covered(t, false, low, high, api.Span{Lo: "n", Hi: "o"})                             // one more
	covered(t, false, low, api.Span{Lo: "m", Hi: "o"}, api.Span{Lo: "m", Hi: "n"}, high) // two from one Lo
	covered(t, false, all, api.Span{Hi: " "})                                            // one more, without keys
	covered(t, false, low, high, api.Span{Hi: " "})                                      // the same
	covered(t, false, low, high, api.Span{Lo: "z", Hi: "b"})                             // one that isn't right
	covered(t, false, low, high, api.Span{Lo: "z", Hi: "z"})                             // one that isn't right, of no keys
	covered(t, false, api.Span{Hi: "b"}, api.Span{Lo: "b", Hi: "a"}, api.Span{Lo: "a"})  // a row, but of one that isn't right
	covered(t, false, api.Span{Hi: "b"}, api.Span{Lo: "b", Hi: "b"}, api.Span{Lo: "b"})  // the same
	covered(t, false, api.Span{Hi: "\x7f"}, api.Span{Lo: "\x7f"})                        // a row at what is no key
	covered(t, false, api.Span{Hi: "\xff"}, api.Span{Lo: "\xff"})                        // the same
	covered(t, false, api.Span{Hi: greatest + " "}, api.Span{Lo: greatest + " "})        // the same
	covered(t, false, api.Span{Hi: "\U00010000"}, api.Span{Lo: "\U00010000", Hi: "\uffff"}, api.Span{Lo: "\uffff"})
}

func TestCoversOfWrongOnes(t *testing.T) {
	for _, w := range wrongSpans() {
		covered(t, false, w)
		covered(t, false, w, api.Span{})
		covered(t, false, w, api.Span{Hi: w.Lo}, api.Span{Lo: w.Hi})
	}
}

// lists is all lists of up to n of the spans.
func lists(of []places, n int) [][]places {
	all := [][]places{nil}
	last := all
	for range n {
		var next [][]places
		for _, list := range last {
			for _, p := range of {
				next = append(next, append(slices.Clone(list), p))
			}
		}
		all = append(all, next...)
		last = next
	}
	return all
}

// inARow tells whether spans, each once, make a way from place 0 to the end: from where a way has come to, the spans that begin there are tried.
func inARow(list []places, at int) bool {
	if len(list) == 0 {
		return at == endless
	}
	for i, p := range list {
		if p.lo == at && inARow(slices.Delete(slices.Clone(list), i, i+1), p.hi) {
			return true
		}
	}
	return false
}

func TestCoversOfAllShortLists(t *testing.T) {
	var of []places
	bounds := []int{0, 1, 9, 10, endless}
	for i, lo := range bounds {
		for _, hi := range bounds[i+1:] {
			of = append(of, places{lo, hi})
		}
	}
	many := 0
	for _, list := range lists(of, 5) {
		var spans []api.Span
		for _, p := range list {
			spans = append(spans, spanOf(p.lo, p.hi))
		}
		want := inARow(list, 0)
		if want {
			many++
		}
		if got := Covers(spans); got != want {
			t.Fatalf("Covers(%q) = %v", spans, got)
		}
	}
	// Three bounds between the ends: each set of them is one way, its spans in each order.
	if many != 1+3*2+3*6+24 {
		t.Errorf("%d lists cover", many)
	}
}

func TestCoversOfLongRows(t *testing.T) {
	var row []api.Span
	for at := range endless {
		row = append(row, spanOf(at, at+1))
	}
	covered(t, true, row...)
	for i := range row {
		covered(t, false, slices.Delete(slices.Clone(row), i, i+1)...)
		covered(t, false, append(slices.Clone(row), row[i])...)
	}
}

// What is handed in isn't changed.

func TestCoversLeavesItsList(t *testing.T) {
	list := []api.Span{{Lo: "m"}, {Lo: "a", Hi: "m"}, {Hi: "a"}, {}}
	kept := slices.Clone(list)
	if !Covers(list[:3]) || !slices.Equal(list, kept) {
		t.Errorf("Covers changes its list: %q", list)
	}
}
