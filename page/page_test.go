package page

import (
	"bytes"
	"reflect"
	"slices"
	"strings"
	"testing"

	"tidewater/api"
	"tidewater/entry"
	"tidewater/pack"
)

// A known is a page whose bytes are written out by hand.
type known struct {
	name  string
	entry api.Entry
	backs []api.Back
	bytes []byte
}

func knowns() []known {
	return []known{
		{"write", api.Entry{Kind: api.Write, Shard: 1, Client: 2, Seq: 3, Ops: []api.Op{{Kind: api.Put, Key: "a", Value: "bc"}}},
			[]api.Back{{Stream: 1, Addresses: []int{9, 2, 1, 0}}},
			[]byte{1, 1, 4, 9, 2, 1, 0, 11, 1, 1, 2, 3, 1, 1, 1, 'a', 2, 'b', 'c'}},
		{"first write", api.Entry{Kind: api.Write, Shard: 12, Client: 1, Seq: 1, Ops: []api.Op{{Kind: api.Del, Key: "a"}}},
			[]api.Back{{Stream: 12}},
			[]byte{1, 1, 0, 8, 1, 12, 1, 1, 1, 2, 1, 'a'}},
		{"move", api.Entry{Kind: api.Move, Shard: 5, Server: 4},
			[]api.Back{{Stream: 0, Addresses: []int{300, 7}}, {Stream: 5}},
			[]byte{1, 2, 2, 0xac, 2, 7, 0, 3, 2, 5, 4}},
		{"split", api.Entry{Kind: api.Split, Shard: 3, Other: 2, Server: 1, Key: "m"},
			[]api.Back{{Stream: 0, Addresses: []int{4095, 4094, 1, 0}}, {Stream: 2, Addresses: []int{0}}, {Stream: 3, Addresses: []int{5, 4, 3}}},
			[]byte{1, 3, 4, 0xff, 0x1f, 0xfe, 0x1f, 1, 0, 1, 0, 3, 5, 4, 3, 6, 3, 3, 2, 1, 1, 'm'}},
		{"merge", api.Entry{Kind: api.Merge, Shard: 1, Other: 2},
			[]api.Back{{Stream: 0}, {Stream: 1}, {Stream: 2}},
			[]byte{1, 3, 0, 0, 0, 3, 4, 1, 2}},
		{"check of the map", api.Entry{Kind: api.Check, Parts: 1, Data: []byte{0, 0xff}},
			[]api.Back{{Stream: 0, Addresses: []int{4095}}},
			[]byte{1, 1, 1, 0xff, 0x1f, 8, 5, 0, 0, 1, 0, 2, 0, 0xff}},
	}
}

// longest is the page with the most bytes of a Write, and the one with the most lists.
func longest() []known {
	write := api.Entry{Kind: api.Write, Shard: 1, Client: 1, Seq: api.MaxSeq}
	key := strings.Repeat("\U0010fffd", api.MaxKey)
	text := strings.Repeat("v", api.MaxValue)
	for range api.MaxOps {
		write.Ops = append(write.Ops, api.Op{Kind: api.Cas, Key: key, Old: text, Value: text})
	}
	split := api.Entry{Kind: api.Split, Shard: 11, Other: 12, Server: 4, Key: key}
	list := []int{4095, 4094, 4093, 4092}
	return []known{
		{name: "longest write", entry: write, backs: []api.Back{{Stream: 1, Addresses: list}}},
		{name: "longest split", entry: split, backs: []api.Back{{Stream: 0, Addresses: list}, {Stream: 11, Addresses: list}, {Stream: 12, Addresses: list}}},
	}
}

// copied is backs held apart from those that they were.
func copied(backs []api.Back) []api.Back {
	list := slices.Clone(backs)
	for i := range list {
		list[i].Addresses = slices.Clone(list[i].Addresses)
	}
	return list
}

// alike tells whether backs are the same, nil and empty lists being one.
func alike(a, b []api.Back) bool {
	return slices.EqualFunc(a, b, func(a, b api.Back) bool {
		return a.Stream == b.Stream && slices.Equal(a.Addresses, b.Addresses)
	})
}

// none tells whether a Read's answers beside an error are zero values.
func none(e api.Entry, backs []api.Back) bool {
	return reflect.DeepEqual(e, api.Entry{}) && len(backs) == 0
}

// lists does something with all lists of up to five of some addresses, and some further ones.
func lists(do func(list []int, right bool)) {
	some := []int{-1, 0, 1, 2, 4094, 4095, 4096}
	var longer func(list []int)
	longer = func(list []int) {
		do(list, rightByWords(list))
		if len(list) == 5 {
			return
		}
		for _, a := range some {
			longer(append(slices.Clone(list), a))
		}
	}
	longer(nil)
	for _, a := range []int{-1 << 63, 1<<63 - 1, 1 << 32, 1 << 12, -4096} {
		do([]int{a}, false)
		do([]int{5, a}, false)
		do([]int{a, 5}, false)
	}
}

// rightByWords tells what the words do: at most four, each within the log, each below all ahead of it.
func rightByWords(list []int) bool {
	for i, a := range list {
		if a < 0 || a > 4095 {
			return false
		}
		for _, ahead := range list[:i] {
			if ahead <= a {
				return false
			}
		}
	}
	return len(list) <= 4
}

// row is bytes of numbers, lists and texts.
func row(list ...any) []byte {
	var out pack.Out
	for _, x := range list {
		switch x := x.(type) {
		case int:
			out.Num(x)
		case []int:
			out.Nums(x)
		case string:
			out.Text(x)
		case []byte:
			out.Text(string(x))
		}
	}
	b, _ := out.Done()
	return b
}

// P6.1: Bytes.

func TestBytesOfKnownPages(t *testing.T) {
	for _, k := range knowns() {
		if b, err := Bytes(k.entry, k.backs); err != nil || !bytes.Equal(b, k.bytes) {
			t.Errorf("%s: % x, %v", k.name, b, err)
		}
	}
	for _, k := range longest() {
		if b, err := Bytes(k.entry, k.backs); err != nil || len(b) > api.MaxPage {
			t.Errorf("%s: %d bytes, %v", k.name, len(b), err)
		}
	}
}

func TestBytesOfAllLists(t *testing.T) {
	move := api.Entry{Kind: api.Move, Shard: 5, Server: 4}
	text, _ := entry.Bytes(move)
	lists(func(list []int, right bool) {
		for at := range 2 {
			both := [][]int{{7, 3}, {7, 3}}
			both[at] = list
			b, err := Bytes(move, []api.Back{{Stream: 0, Addresses: both[0]}, {Stream: 5, Addresses: both[1]}})
			if !right {
				if err != api.ErrForm || b != nil {
					t.Fatalf("%v as list %d: % x, %v", list, at, b, err)
				}
				continue
			}
			if want := row(1, 2, both[0], both[1], text); err != nil || !bytes.Equal(b, want) {
				t.Fatalf("%v as list %d: % x, %v", list, at, b, err)
			}
		}
	})
}

func TestBytesOfWrongStreams(t *testing.T) {
	for _, k := range append(knowns(), longest()...) {
		wrong := [][]api.Back{nil, {}, k.backs[1:], k.backs[:len(k.backs)-1],
			append(copied(k.backs), api.Back{Stream: 12}),
			append(copied(k.backs), api.Back{Stream: -1}),
			append(copied(k.backs), k.backs[len(k.backs)-1]),
			append([]api.Back{{Stream: 0}}, k.backs...)}
		for i := range k.backs {
			for s := -1; s <= 13; s++ {
				if s != k.backs[i].Stream {
					backs := copied(k.backs)
					backs[i].Stream = s
					wrong = append(wrong, backs)
				}
			}
			for j := range i {
				backs := copied(k.backs)
				backs[i], backs[j] = backs[j], backs[i]
				wrong = append(wrong, backs)
			}
		}
		for _, backs := range wrong {
			if b, err := Bytes(k.entry, backs); err != api.ErrForm || b != nil {
				t.Errorf("%s, %v: % x, %v", k.name, backs, b, err)
			}
		}
	}
}

func TestBytesOfWrongEntries(t *testing.T) {
	for _, e := range []api.Entry{{}, {Kind: 6, Shard: 1}, {Kind: -1}, {Kind: api.Move, Shard: 0, Server: 1}, {Kind: api.Move, Shard: 1}, {Kind: api.Merge, Shard: 1, Other: 1}, {Kind: api.Check}, {Kind: api.Write, Shard: 1, Client: 1, Seq: 1}} {
		for _, backs := range [][]api.Back{nil, {{Stream: 0}}, {{Stream: 0}, {Stream: 1}}, {{Stream: 1}}, {{Stream: 0}, {Stream: 1}, {Stream: 1}}} {
			if b, err := Bytes(e, backs); err != api.ErrForm || b != nil {
				t.Errorf("%v, %v: % x, %v", e, backs, b, err)
			}
		}
	}
}

// P6.1: Read.

func TestReadOfKnownPages(t *testing.T) {
	for _, k := range knowns() {
		e, backs, err := Read(k.bytes)
		if err != nil || !entry.Same(e, k.entry) || !alike(backs, k.backs) {
			t.Errorf("%s: %v, %v, %v", k.name, e, backs, err)
		}
	}
}

func TestReadOfBoundsAndErrors(t *testing.T) {
	move := []byte{2, 5, 4}
	merge := []byte{4, 1, 2}
	two := func(one, other any) []byte { return row(1, 2, one, other, move) }
	empty := []int{}
	tests := []struct {
		name string
		b    []byte
		err  error
	}{
		{"nothing", nil, api.ErrShort},
		{"junk", []byte{0}, api.ErrShort},
		{"a beginning alone", row(1), api.ErrShort},
		{"begins with 0", row(0, 2, empty, empty, move), api.ErrForm},
		{"begins with 2", row(2, 2, empty, empty, move), api.ErrRange},
		{"begins with 2 and ends there", row(2), api.ErrRange},
		{"begins with 0, is short", row(0, 2, empty, empty), api.ErrShort},
		{"begins with 0, a list out of range", row(0, 1, []int{4096}, move), api.ErrRange},
		{"begins with a number that isn't short", append([]byte{0x81, 0}, row(2, empty, empty, move)...), api.ErrForm},
		{"four lists", row(1, 4, empty, empty, empty, empty, merge), api.ErrRange},
		{"four lists, told alone", row(1, 4), api.ErrRange},
		{"no list", row(1, 0, move), api.ErrForm},
		{"one list of two", row(1, 1, empty, move), api.ErrForm},
		{"three lists of two", row(1, 3, empty, empty, empty, move), api.ErrForm},
		{"two lists of three", row(1, 2, empty, empty, merge), api.ErrForm},
		{"three lists", row(1, 3, empty, empty, empty, merge), nil},
		{"two lists", two(empty, empty), nil},
		{"lists of four", two([]int{4095, 3, 1, 0}, []int{4, 3, 2, 1}), nil},
		{"a list of five", two([]int{5, 4, 3, 2, 1}, empty), api.ErrRange},
		{"a last list of five", two(empty, []int{5, 4, 3, 2, 1}), api.ErrRange},
		{"the last address", two([]int{4095}, empty), nil},
		{"an address behind it", two([]int{4096}, empty), api.ErrRange},
		{"an address behind it, last", two(empty, []int{1, 4096}), api.ErrRange},
		{"a list that rises", two([]int{1, 2}, empty), api.ErrForm},
		{"a list that stays", two(empty, []int{2, 2}), api.ErrForm},
		{"a list that rises at its end", two(empty, []int{9, 8, 3, 4}), api.ErrForm},
		{"a list that ends", row(1, 2, empty, 3, 2, 1), api.ErrShort},
		{"no text", row(1, 2, empty, empty), api.ErrShort},
		{"a text that ends", append(row(1, 2, empty, empty, 4), move...), api.ErrShort},
		{"an empty text", row(1, 2, empty, empty, ""), api.ErrShort},
		{"a text of 2049 bytes told", row(1, 2, empty, empty, 2049), api.ErrRange},
		{"a text of 2048 bytes told", row(1, 2, empty, empty, 2048), api.ErrShort},
		{"bytes left", append(two(empty, empty), 0), api.ErrForm},
		{"bytes left behind a wrong entry", append(row(1, 2, empty, empty, []byte{2, 13, 4}), 0), api.ErrForm},
		{"begins with 0, a wrong entry", row(0, 2, empty, empty, []byte{2, 13, 4}), api.ErrForm},
		{"an entry out of range", row(1, 2, empty, empty, []byte{2, 13, 4}), api.ErrRange},
		{"an entry out of range, a wrong list", row(1, 2, []int{1, 2}, empty, []byte{2, 13, 4}), api.ErrRange},
		{"an entry out of range, too few lists", row(1, 0, []byte{2, 13, 4}), api.ErrRange},
		{"an entry that ends", row(1, 2, empty, empty, []byte{2, 5}), api.ErrShort},
		{"an entry that ends, a wrong list", row(1, 2, []int{1, 1}, empty, []byte{2, 5}), api.ErrShort},
		{"an entry with bytes left", row(1, 2, empty, empty, []byte{2, 5, 4, 0}), api.ErrForm},
		{"an entry of no kind", row(1, 0, []byte{0}), api.ErrForm},
		{"an entry of kind 6", row(1, 0, []byte{6}), api.ErrRange},
		{"2048 bytes of nothing", make([]byte, 2048), api.ErrForm},
		{"2049 bytes of nothing", make([]byte, 2049), api.ErrLong},
		{"2049 bytes that are short", append([]byte{0x80}, make([]byte, 2048)...), api.ErrLong},
		{"2049 bytes out of range", bytes.Repeat([]byte{9}, 2049), api.ErrLong},
		{"2048 bytes out of range", bytes.Repeat([]byte{9}, 2048), api.ErrRange},
		{"a page and bytes up to 2048", append(two(empty, empty), make([]byte, 2048-len(two(empty, empty)))...), api.ErrForm},
		{"a page and bytes up to 2049", append(two(empty, empty), make([]byte, 2049-len(two(empty, empty)))...), api.ErrLong},
		{"a text up to 2048 bytes", row(1, 0, bytes.Repeat([]byte{9}, 2044)), api.ErrRange},
	}
	for _, c := range tests {
		e, backs, err := Read(c.b)
		if err != c.err {
			t.Errorf("%s: %v", c.name, err)
		}
		if err != nil && !none(e, backs) {
			t.Errorf("%s: %v, %v beside an error", c.name, e, backs)
		}
	}
}

// model reads bytes as the words tell it.
func model(b []byte) (api.Entry, []api.Back, error) {
	if len(b) > 2048 {
		return api.Entry{}, nil, api.ErrLong
	}
	in := pack.Read(b)
	begin := in.Num(1)
	var all [][]int
	for range in.Num(3) {
		all = append(all, in.Nums(4, 4095))
	}
	text := in.Text(2048)
	switch {
	case in.Err() != nil:
		return api.Entry{}, nil, in.Err()
	case begin != 1 || in.Left() > 0:
		return api.Entry{}, nil, api.ErrForm
	}
	e, err := entry.Read([]byte(text))
	if err != nil {
		return api.Entry{}, nil, err
	}
	if len(all) != len(entry.Streams(e)) {
		return api.Entry{}, nil, api.ErrForm
	}
	var backs []api.Back
	for i, list := range all {
		if !rightByWords(list) {
			return api.Entry{}, nil, api.ErrForm
		}
		backs = append(backs, api.Back{Stream: entry.Streams(e)[i], Addresses: list})
	}
	return e, backs, nil
}

// held holds all answers of bytes against the model's.
func held(t *testing.T, b []byte) {
	t.Helper()
	was := bytes.Clone(b)
	e, backs, err := Read(b)
	wantEntry, wantBacks, wantErr := model(b)
	if err != wantErr || !alike(backs, wantBacks) || err == nil && !entry.Same(e, wantEntry) || err != nil && !none(e, backs) {
		t.Fatalf("Read(% x) = %v, %v, %v; not %v, %v, %v", b, e, backs, err, wantEntry, wantBacks, wantErr)
	}
	for s := -1; s <= 13; s++ {
		at := slices.IndexFunc(wantBacks, func(back api.Back) bool { return back.Stream == s })
		list, is := Backs(b, s)
		if is != (at >= 0) || is && !slices.Equal(list, wantBacks[at].Addresses) || !is && len(list) > 0 {
			t.Fatalf("Backs(% x, %d) = %v, %v", b, s, list, is)
		}
	}
	if err == nil {
		if again, err := Bytes(e, backs); err != nil || !bytes.Equal(again, b) {
			t.Fatalf("% x is written as % x, %v", b, again, err)
		}
	}
	if IsJunk(b) != (len(b) == 1 && b[0] == 0) {
		t.Fatalf("IsJunk(% x) = %v", b, IsJunk(b))
	}
	if !bytes.Equal(b, was) {
		t.Fatalf("% x were changed to % x", was, b)
	}
}

func TestReadOfShortBytes(t *testing.T) {
	signs := []byte{0, 1, 2, 3, 4, 5, 12, 0x80, 0xff}
	var all func(b []byte)
	all = func(b []byte) {
		held(t, b)
		if len(b) < 5 {
			for _, s := range signs {
				all(append(bytes.Clone(b), s))
			}
		}
	}
	all(nil)
}

func TestReadOfChangedBytes(t *testing.T) {
	for _, k := range knowns() {
		for at := range k.bytes {
			held(t, k.bytes[:at])
			for s := range 256 {
				b := bytes.Clone(k.bytes)
				b[at] = byte(s)
				held(t, b)
				held(t, slices.Insert(bytes.Clone(k.bytes), at, byte(s)))
				held(t, slices.Delete(b, at, at+1))
			}
		}
		for s := range 256 {
			held(t, append(bytes.Clone(k.bytes), byte(s)))
		}
	}
}

func TestReadOfAllLists(t *testing.T) {
	lists(func(list []int, _ bool) {
		held(t, row(1, 2, list, []int{7, 3}, []byte{2, 5, 4}))
		held(t, row(1, 3, []int{}, []int{0}, list, []byte{4, 2, 1}))
	})
}

// P6.1: Junk and IsJunk.

func TestJunk(t *testing.T) {
	if b := Junk(); !bytes.Equal(b, []byte{0}) {
		t.Errorf("Junk() = % x", b)
	}
	for _, b := range [][]byte{nil, {}, {1}, {0x80}, {0xff}, {0, 0}, {0, 1}, {1, 0}, make([]byte, 2048)} {
		if IsJunk(b) {
			t.Errorf("% x is junk", b)
		}
	}
	if _, _, err := Read(Junk()); err != api.ErrShort {
		t.Errorf("Read(Junk()): %v", err)
	}
	for _, k := range append(knowns(), longest()...) {
		if b, _ := Bytes(k.entry, k.backs); IsJunk(b) {
			t.Errorf("%s is junk", k.name)
		}
	}
}

func TestJunkIsTheCallersOwn(t *testing.T) {
	Junk()[0] = 7
	if !IsJunk(Junk()) || !IsJunk([]byte{0}) {
		t.Error("junk was changed")
	}
}

// P6.1: Backs.

func TestBacksOfKnownPages(t *testing.T) {
	for _, k := range knowns() {
		for s := -2; s < 16; s++ {
			list, is := Backs(k.bytes, s)
			at := slices.IndexFunc(k.backs, func(b api.Back) bool { return b.Stream == s })
			if is != (at >= 0) || is && !slices.Equal(list, k.backs[at].Addresses) || !is && list != nil {
				t.Errorf("%s: Backs of %d = %v, %v", k.name, s, list, is)
			}
		}
	}
}

func TestBacksOfWrongBytes(t *testing.T) {
	for _, b := range [][]byte{nil, Junk(), make([]byte, 3000), row(1, 1, []int{3}, []byte{2, 5, 4}), row(1, 2, []int{3}, []int{3, 3}, []byte{2, 5, 4}), row(0, 2, []int{3}, []int{3}, []byte{2, 5, 4})} {
		for s := -1; s <= 13; s++ {
			if list, is := Backs(b, s); is || list != nil {
				t.Errorf("Backs(% x, %d) = %v, %v", b, s, list, is)
			}
		}
	}
}

// P6.1: what is handed in stays, and what is answered is the caller's own.

func TestArgumentsStay(t *testing.T) {
	for _, k := range append(knowns(), longest()...) {
		backs := copied(k.backs)
		b, _ := Bytes(k.entry, backs)
		if !alike(backs, k.backs) {
			t.Errorf("%s: Bytes changed the backs to %v", k.name, backs)
		}
		was := bytes.Clone(b)
		for i := range backs {
			clear(backs[i].Addresses)
		}
		if !bytes.Equal(b, was) {
			t.Errorf("%s: the bytes change with the lists", k.name)
		}
	}
}

func TestAnswersAreTheCallersOwn(t *testing.T) {
	for _, k := range knowns() {
		b := bytes.Clone(k.bytes)
		e, backs, _ := Read(b)
		list, _ := Backs(b, k.backs[0].Stream)
		clear(b)
		if !entry.Same(e, k.entry) || !alike(backs, k.backs) || !slices.Equal(list, k.backs[0].Addresses) {
			t.Errorf("%s: what was read changes with its bytes", k.name)
		}
		for i := range backs {
			// Behind a list's end there may be room that another one has.
			backs[i].Addresses = append(backs[i].Addresses, 4095)
			backs[i].Addresses[0] = 4095
			for j := range backs {
				if j > i && !slices.Equal(backs[j].Addresses, k.backs[j].Addresses) {
					t.Errorf("%s: list %d changes with list %d", k.name, j, i)
				}
			}
		}
	}
}

// P6.2: what is written is read as the same.

func TestWrittenIsReadAsTheSame(t *testing.T) {
	for _, k := range append(knowns(), longest()...) {
		b, err := Bytes(k.entry, k.backs)
		if err != nil {
			t.Fatal(k.name, err)
		}
		e, backs, err := Read(b)
		if err != nil || !entry.Same(e, k.entry) || !alike(backs, k.backs) {
			t.Errorf("%s: %v, %v, %v", k.name, e, backs, err)
		}
		for _, back := range k.backs {
			if list, is := Backs(b, back.Stream); !is || !slices.Equal(list, back.Addresses) {
				t.Errorf("%s: Backs of %d = %v, %v", k.name, back.Stream, list, is)
			}
		}
	}
}

func TestAllListsAreReadAsTheSame(t *testing.T) {
	for _, k := range knowns() {
		for at := range k.backs {
			lists(func(list []int, right bool) {
				if !right {
					return
				}
				backs := copied(k.backs)
				backs[at].Addresses = list
				b, err := Bytes(k.entry, backs)
				e, got, readErr := Read(b)
				if err != nil || readErr != nil || !entry.Same(e, k.entry) || !alike(got, backs) {
					t.Fatalf("%s: %v is read as %v (%v, %v)", k.name, backs, got, err, readErr)
				}
			})
		}
	}
}
