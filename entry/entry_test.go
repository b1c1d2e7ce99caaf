package entry

import (
	"bytes"
	"reflect"
	"slices"
	"strings"
	"testing"

	"tidewater/api"
	"tidewater/pack"
	"tidewater/runes"
)

// longKey has as many runes, and as many bytes, as a key may have.
var longKey = strings.Repeat("\U0010fffd", api.MaxKey)

// ofLen is a text of so many bytes.
func ofLen(n int) string { return strings.Repeat("v", n) }

// A known is an entry whose bytes, streams and keys are written out by hand.
type known struct {
	name    string
	entry   api.Entry
	bytes   []byte
	streams []int
	keys    []string
}

func knowns() []known {
	return []known{
		{"put", api.Entry{Kind: api.Write, Shard: 1, Client: 2, Seq: 3, Ops: []api.Op{{Kind: api.Put, Key: "a", Value: "bc"}}},
			[]byte{1, 1, 2, 3, 1, 1, 1, 'a', 2, 'b', 'c'}, []int{1}, []string{"a"}},
		{"del", api.Entry{Kind: api.Write, Shard: 2, Client: 1, Seq: 1, Ops: []api.Op{{Kind: api.Del, Key: "a"}}},
			[]byte{1, 2, 1, 1, 1, 2, 1, 'a'}, []int{2}, []string{"a"}},
		{"cas", api.Entry{Kind: api.Write, Shard: 12, Client: 4, Seq: 300, Ops: []api.Op{{Kind: api.Cas, Key: "ä", Old: "o", Value: "v"}}},
			[]byte{1, 12, 4, 0xac, 2, 1, 3, 2, 0xc3, 0xa4, 1, 'o', 1, 'v'}, []int{12}, []string{"ä"}},
		{"expect", api.Entry{Kind: api.Write, Shard: 3, Client: 3, Seq: api.MaxSeq, Ops: []api.Op{{Kind: api.Expect, Key: "k", Version: api.MaxLog}}},
			[]byte{1, 3, 3, 0x80, 0x80, 0x80, 0x80, 4, 1, 4, 1, 'k', 0x80, 0x20}, []int{3}, []string{"k"}},
		{"all operations", api.Entry{Kind: api.Write, Shard: 1, Client: 1, Seq: 1, Ops: []api.Op{
			{Kind: api.Expect, Key: "b"}, {Kind: api.Put, Key: "a"}, {Kind: api.Cas, Key: "b", Value: "x"}, {Kind: api.Del, Key: "a"}}},
			[]byte{1, 1, 1, 1, 4, 4, 1, 'b', 0, 1, 1, 'a', 0, 3, 1, 'b', 0, 1, 'x', 2, 1, 'a'}, []int{1}, []string{"b", "a", "b", "a"}},
		{"move", api.Entry{Kind: api.Move, Shard: 5, Server: 4}, []byte{2, 5, 4}, []int{0, 5}, nil},
		{"split", api.Entry{Kind: api.Split, Shard: 1, Other: 2, Server: 3, Key: "m"}, []byte{3, 1, 2, 3, 1, 'm'}, []int{0, 1, 2}, []string{"m"}},
		{"split down", api.Entry{Kind: api.Split, Shard: 12, Other: 11, Server: 1, Key: "mn"}, []byte{3, 12, 11, 1, 2, 'm', 'n'}, []int{0, 11, 12}, []string{"mn"}},
		{"merge", api.Entry{Kind: api.Merge, Shard: 1, Other: 2}, []byte{4, 1, 2}, []int{0, 1, 2}, nil},
		{"merge down", api.Entry{Kind: api.Merge, Shard: 7, Other: 3}, []byte{4, 7, 3}, []int{0, 3, 7}, nil},
		{"check", api.Entry{Kind: api.Check, Shard: 9, Upto: 200, Parts: 4, Part: 3, Data: []byte{0, 0xff}}, []byte{5, 9, 0xc8, 1, 4, 3, 2, 0, 0xff}, []int{9}, nil},
		{"check of the map", api.Entry{Kind: api.Check, Parts: 1}, []byte{5, 0, 0, 1, 0, 0}, []int{0}, nil},
	}
}

// longest is the right entry with the most bytes.
func longest() api.Entry {
	e := api.Entry{Kind: api.Write, Shard: api.MaxShards, Client: api.MaxClients, Seq: api.MaxSeq}
	for range api.MaxOps {
		e.Ops = append(e.Ops, api.Op{Kind: api.Cas, Key: longKey, Old: ofLen(api.MaxValue), Value: ofLen(api.MaxValue)})
	}
	return e
}

// alter is an entry with one thing changed, held apart from the one that it was.
func alter(e api.Entry, change func(e *api.Entry)) api.Entry {
	e.Ops = slices.Clone(e.Ops)
	e.Data = bytes.Clone(e.Data)
	change(&e)
	return e
}

// alike tells whether entries are the same in all fields, nil and empty lists being one.
func alike(a, b api.Entry) bool {
	if len(a.Ops)+len(b.Ops) == 0 {
		a.Ops, b.Ops = nil, nil
	}
	if len(a.Data)+len(b.Data) == 0 {
		a.Data, b.Data = nil, nil
	}
	return reflect.DeepEqual(a, b)
}

// An edge is a change of an entry, and whether the entry is right then.
type edge struct {
	name   string
	change func(e *api.Entry)
	right  bool
}

// numberEdges is the edges of a number that is right from the least one to the most.
func numberEdges(name string, least, most int, field func(e *api.Entry) *int) []edge {
	var list []edge
	for _, n := range []int{-1 << 63, -1, 0, 1, least - 1, least, least + 1, most - 1, most, most + 1, 1<<63 - 1} {
		list = append(list, edge{name, func(e *api.Entry) { *field(e) = n }, least <= n && n <= most})
	}
	return list
}

// textEdges is the edges of a text of at most so many bytes.
func textEdges(name string, most int, field func(e *api.Entry) *string) []edge {
	var list []edge
	for _, s := range []string{"", "\xff", "a\x00", ofLen(most - 1), ofLen(most), ofLen(most + 1), ofLen(3000), strings.Repeat("ä", most/2), strings.Repeat("ä", most/2+1)} {
		list = append(list, edge{name, func(e *api.Entry) { *field(e) = s }, len(s) <= most})
	}
	return list
}

// keyEdges is the edges of a key.
func keyEdges(name string, field func(e *api.Entry) *string) []edge {
	var list []edge
	for _, s := range []string{"", "a", " ", "\x1f", "\x00", "a\x00", "ä", "\xff", "a\xff", longKey, longKey + "a", ofLen(api.MaxKey), ofLen(api.MaxKey + 1)} {
		list = append(list, edge{name, func(e *api.Entry) { *field(e) = s }, runes.Key(s) == nil})
	}
	return list
}

func shard(e *api.Entry) *int    { return &e.Shard }
func other(e *api.Entry) *int    { return &e.Other }
func server(e *api.Entry) *int   { return &e.Server }
func client(e *api.Entry) *int   { return &e.Client }
func seq(e *api.Entry) *int      { return &e.Seq }
func upto(e *api.Entry) *int     { return &e.Upto }
func part(e *api.Entry) *int     { return &e.Part }
func key(e *api.Entry) *string   { return &e.Key }
func opKind(e *api.Entry) *int   { return &e.Ops[0].Kind }
func opKey(e *api.Entry) *string { return &e.Ops[0].Key }
func value(e *api.Entry) *string { return &e.Ops[0].Value }
func old(e *api.Entry) *string   { return &e.Ops[0].Old }
func version(e *api.Entry) *int  { return &e.Ops[0].Version }

// edges is the edges of all that an entry of this kind (a Write: of this first operation) has.
func edges(e api.Entry) []edge {
	switch e.Kind {
	case api.Write:
		list := slices.Concat(
			numberEdges("shard", 1, api.MaxShards, shard),
			numberEdges("client", 1, api.MaxClients, client),
			numberEdges("seq", 1, api.MaxSeq, seq),
			keyEdges("operation's key", opKey))
		for _, n := range []int{0, 1, 7, 8, 9, 20} {
			list = append(list, edge{"operations", func(e *api.Entry) { e.Ops = slices.Repeat(e.Ops[:1], n) }, 1 <= n && n <= api.MaxOps})
		}
		for _, n := range []int{-1, 0, 5, 1 << 62} {
			list = append(list, edge{"operation's kind", func(e *api.Entry) { e.Ops[0].Kind = n }, false})
		}
		for _, n := range []int{0, 5} {
			list = append(list, edge{"last operation", func(e *api.Entry) { e.Ops = append(e.Ops, api.Op{Kind: n, Key: "a"}) }, false})
		}
		return append(list, opEdges(e.Ops[0].Kind)...)
	case api.Move:
		return slices.Concat(
			numberEdges("shard", 1, api.MaxShards, shard),
			numberEdges("server", 1, api.MaxServers, server))
	case api.Split:
		return slices.Concat(pairEdges(), numberEdges("server", 1, api.MaxServers, server), keyEdges("key", key))
	case api.Merge:
		return pairEdges()
	}
	list := slices.Concat(
		numberEdges("shard", 0, api.MaxShards, shard),
		numberEdges("upto", 0, api.MaxLog, upto))
	for _, parts := range []int{-1 << 63, -1, 0, 1, 2, 63, 64, 65, 1 << 62} {
		for _, p := range []int{-1 << 63, -1, 0, 1, 62, 63, 64, 65, 1 << 62, 1<<63 - 1} {
			list = append(list, edge{"part", func(e *api.Entry) { e.Parts, e.Part = parts, p }, 1 <= parts && parts <= api.MaxParts && 0 <= p && p < parts})
		}
	}
	for _, n := range []int{0, 1, 255, 256, 257, 3000} {
		list = append(list, edge{"data", func(e *api.Entry) { e.Data = []byte(ofLen(n)) }, n <= api.MaxData})
	}
	return list
}

// opEdges is the edges of what operations of one kind have.
func opEdges(kind int) []edge {
	switch kind {
	case api.Put:
		return textEdges("value", api.MaxValue, value)
	case api.Cas:
		return slices.Concat(textEdges("value", api.MaxValue, value), textEdges("old", api.MaxValue, old))
	case api.Expect:
		return numberEdges("version", 0, api.MaxLog, version)
	}
	return nil
}

// pairEdges is all pairs of shards, and some that are none.
func pairEdges() []edge {
	var list []edge
	for one := -1; one <= api.MaxShards+1; one++ {
		for two := -1; two <= api.MaxShards+1; two++ {
			right := 1 <= one && one <= api.MaxShards && 1 <= two && two <= api.MaxShards && one != two
			list = append(list, edge{"shards", func(e *api.Entry) { e.Shard, e.Other = one, two }, right})
		}
	}
	return list
}

// noise is the changes of all that an entry doesn't have: they don't count.
func noise(e api.Entry) []edge {
	var list []edge
	add := func(name string, change func(e *api.Entry)) { list = append(list, edge{name, change, true}) }
	number := func(name string, field func(e *api.Entry) *int) {
		for _, n := range []int{-1, 1, 2, 1 << 40} {
			add(name, func(e *api.Entry) { *field(e) = n })
		}
	}
	if e.Kind != api.Split && e.Kind != api.Merge {
		number("other", other)
		add("other as shard", func(e *api.Entry) { e.Other = e.Shard })
	}
	if e.Kind != api.Split && e.Kind != api.Move {
		number("server", server)
	}
	if e.Kind != api.Split {
		add("key", func(e *api.Entry) { e.Key = "k" })
		add("wrong key", func(e *api.Entry) { e.Key = "\xff" })
	}
	if e.Kind != api.Check {
		number("upto", upto)
		number("part", part)
		number("parts", func(e *api.Entry) *int { return &e.Parts })
		add("data", func(e *api.Entry) { e.Data = []byte{1} })
		add("long data", func(e *api.Entry) { e.Data = make([]byte, 5000) })
	}
	if e.Kind != api.Write {
		number("client", client)
		number("seq", seq)
		add("operations", func(e *api.Entry) { e.Ops = []api.Op{{Kind: api.Put, Key: "a", Value: "b"}} })
		add("wrong operations", func(e *api.Entry) { e.Ops = make([]api.Op, 20) })
		return list
	}
	kind := e.Ops[0].Kind
	if kind != api.Expect {
		number("version", version)
	}
	if kind != api.Cas {
		add("old", func(e *api.Entry) { e.Ops[0].Old = "o" })
		add("long old", func(e *api.Entry) { e.Ops[0].Old = ofLen(100) })
	}
	if kind != api.Cas && kind != api.Put {
		add("value", func(e *api.Entry) { e.Ops[0].Value = "v" })
		add("long value", func(e *api.Entry) { e.Ops[0].Value = ofLen(100) })
	}
	return list
}

// samples is right entries: those that are known, those at edges, and the longest one.
func samples() []api.Entry {
	list := []api.Entry{longest()}
	for _, k := range knowns() {
		list = append(list, k.entry)
		for _, d := range edges(k.entry) {
			if d.right {
				list = append(list, alter(k.entry, d.change))
			}
		}
	}
	return list
}

// letters is the fields of each kind in the order of their bytes.
func letters(kind int) string {
	return []string{"", "scqn", "sv", "sovk", "so", "suPpd"}[kind]
}

// model reads bytes by the letters of the kinds.
func model(b []byte) (api.Entry, error) {
	in := pack.Read(b)
	e := api.Entry{Kind: in.Num(5)}
	for _, l := range letters(e.Kind) {
		switch l {
		case 's':
			e.Shard = in.Num(12)
		case 'o':
			e.Other = in.Num(12)
		case 'v':
			e.Server = in.Num(4)
		case 'c':
			e.Client = in.Num(4)
		case 'q':
			e.Seq = in.Num(1 << 30)
		case 'k':
			e.Key = in.Text(2048)
		case 'u':
			e.Upto = in.Num(4096)
		case 'P':
			e.Parts = in.Num(64)
		case 'p':
			e.Part = in.Num(64)
		case 'd':
			e.Data = []byte(in.Text(2048))
		case 'n':
			for range in.Num(8) {
				e.Ops = append(e.Ops, modelOp(in))
			}
		}
	}
	if in.End() != nil {
		return api.Entry{}, in.End()
	}
	if !modelRight(e) {
		return api.Entry{}, api.ErrForm
	}
	return e, nil
}

func modelOp(in *pack.In) api.Op {
	o := api.Op{}
	o.Kind = in.Num(4)
	o.Key = in.Text(2048)
	switch o.Kind {
	case 1:
		o.Value = in.Text(2048)
	case 3:
		o.Old = in.Text(2048)
		o.Value = in.Text(2048)
	case 4:
		o.Version = in.Num(4096)
	}
	return o
}

// modelRight tells what is right of numbers within their bounds.
func modelRight(e api.Entry) bool {
	wrong := false
	for _, o := range e.Ops {
		wrong = wrong || o.Kind == 0 || runes.Key(o.Key) != nil || len(o.Value) > 64 || len(o.Old) > 64
	}
	for _, l := range letters(e.Kind) {
		switch l {
		case 's':
			wrong = wrong || e.Shard == 0 && e.Kind != 5
		case 'o':
			wrong = wrong || e.Other == 0 || e.Other == e.Shard
		case 'v':
			wrong = wrong || e.Server == 0
		case 'c':
			wrong = wrong || e.Client == 0
		case 'q':
			wrong = wrong || e.Seq == 0
		case 'k':
			wrong = wrong || runes.Key(e.Key) != nil
		case 'p':
			wrong = wrong || e.Part >= e.Parts
		case 'd':
			wrong = wrong || len(e.Data) > 256
		case 'n':
			wrong = wrong || len(e.Ops) == 0
		}
	}
	return !wrong && e.Kind > 0
}

// P5.1: Right.

func TestRightOfKnownEntries(t *testing.T) {
	for _, k := range knowns() {
		if !Right(k.entry) {
			t.Errorf("%s: isn't right", k.name)
		}
	}
	if !Right(longest()) {
		t.Error("the longest one isn't right")
	}
}

func TestRightAtEdges(t *testing.T) {
	for _, k := range knowns() {
		for _, d := range edges(k.entry) {
			e := alter(k.entry, d.change)
			if got := Right(e); got != d.right {
				t.Errorf("%s, %s: Right(%v) = %v", k.name, d.name, e, got)
			}
		}
	}
}

func TestRightOfWrongKinds(t *testing.T) {
	for _, k := range knowns() {
		for _, n := range []int{-1 << 63, -1, 0, 6, 7, 1 << 32, 1<<32 + 1, 1<<63 - 1} {
			if e := alter(k.entry, func(e *api.Entry) { e.Kind = n }); Right(e) {
				t.Errorf("%s as kind %d is right", k.name, n)
			}
		}
	}
	if Right(api.Entry{}) {
		t.Error("the zero entry is right")
	}
}

func TestRightLooksAtEachOperation(t *testing.T) {
	wrongs := []api.Op{{}, {Kind: api.Put}, {Kind: api.Del, Key: ""}, {Kind: 5, Key: "a"}, {Kind: -1, Key: "a"}, {Kind: api.Put, Key: "a", Value: ofLen(65)},
		{Kind: api.Cas, Key: "a", Old: ofLen(65)}, {Kind: api.Expect, Key: "a", Version: -1}, {Kind: api.Expect, Key: "a", Version: api.MaxLog + 1}}
	for _, wrong := range wrongs {
		for at := range api.MaxOps {
			e := longest()
			e.Ops[at] = wrong
			if Right(e) {
				t.Errorf("with %v at %d it is right", wrong, at)
			}
		}
	}
}

func TestFieldsThatAKindHasNotDontCount(t *testing.T) {
	for _, k := range knowns() {
		for _, d := range noise(k.entry) {
			e := alter(k.entry, d.change)
			if !Right(e) {
				t.Errorf("%s, %s: isn't right", k.name, d.name)
			}
			if b, err := Bytes(e); err != nil || !bytes.Equal(b, k.bytes) {
				t.Errorf("%s, %s: Bytes = %x, %v", k.name, d.name, b, err)
			}
			if s := Streams(e); !slices.Equal(s, k.streams) {
				t.Errorf("%s, %s: Streams = %v", k.name, d.name, s)
			}
			if s := Keys(e); !slices.Equal(s, k.keys) {
				t.Errorf("%s, %s: Keys = %q", k.name, d.name, s)
			}
			if !Same(e, k.entry) || !Same(k.entry, e) {
				t.Errorf("%s, %s: isn't the same", k.name, d.name)
			}
		}
	}
}

// P5.1: Bytes.

func TestBytesOfKnownEntries(t *testing.T) {
	for _, k := range knowns() {
		if b, err := Bytes(k.entry); err != nil || !bytes.Equal(b, k.bytes) {
			t.Errorf("%s: Bytes = %x, %v; want %x", k.name, b, err, k.bytes)
		}
	}
}

func TestBytesOfWrongEntries(t *testing.T) {
	for _, k := range knowns() {
		for _, d := range edges(k.entry) {
			e := alter(k.entry, d.change)
			b, err := Bytes(e)
			if d.right && (err != nil || len(b) == 0) {
				t.Errorf("%s, %s: Bytes = %x, %v", k.name, d.name, b, err)
			}
			if !d.right && (err != api.ErrForm || b != nil) {
				t.Errorf("%s, %s: Bytes = %x, %v; want ErrForm", k.name, d.name, b, err)
			}
		}
	}
	if b, err := Bytes(api.Entry{}); err != api.ErrForm || b != nil {
		t.Errorf("of the zero entry: %x, %v", b, err)
	}
}

func TestBytesOfTheLongestEntry(t *testing.T) {
	// 9 bytes of the Write, and of each operation its kind and three texts with their lengths.
	want := 9 + api.MaxOps*(1+1+4*api.MaxKey+2*(1+api.MaxValue))
	if b, err := Bytes(longest()); err != nil || len(b) != want {
		t.Errorf("Bytes has %d bytes, %v; want %d", len(b), err, want)
	}
	if want > api.MaxPage-200 {
		t.Error("right entries may be too long: a test of ErrLong is needed")
	}
}

// P5.1: Read.

func TestReadOfKnownBytes(t *testing.T) {
	for _, k := range knowns() {
		if e, err := Read(k.bytes); err != nil || !alike(e, k.entry) {
			t.Errorf("%s: Read = %v, %v", k.name, e, err)
		}
	}
}

// held tells of what Read answers otherwise than the model.
func held(t *testing.T, b []byte) {
	t.Helper()
	before := bytes.Clone(b)
	want, wantErr := model(b)
	e, err := Read(b)
	if err != wantErr || !alike(e, want) {
		t.Fatalf("Read(%x) = %v, %v; want %v, %v", b, e, err, want, wantErr)
	}
	if !bytes.Equal(b, before) {
		t.Fatalf("Read changed %x to %x", before, b)
	}
	if err != nil {
		return
	}
	if again, err := Bytes(e); err != nil || !bytes.Equal(again, b) {
		t.Fatalf("%x is read, and written as %x, %v", b, again, err)
	}
}

func TestReadOfAllShortBytes(t *testing.T) {
	signs := []byte{0, 1, 2, 3, 4, 5, 6, 12, 13, 'a', 0x80, 0xff}
	rows := [][]byte{nil}
	for len(rows) > 0 && len(rows[0]) <= 4 {
		var next [][]byte
		for _, row := range rows {
			held(t, row)
			for _, s := range signs {
				next = append(next, append(bytes.Clone(row), s))
			}
		}
		rows = next
	}
}

func TestReadOfAllShortOperations(t *testing.T) {
	signs := []byte{0, 1, 2, 3, 4, 5, 'a', 0x80}
	heads := [][]byte{{1, 1, 1, 1, 1}, {1, 1, 1, 1, 2}, {1, 1, 1, 1, 1, 3, 1, 'a'}, {1, 1, 1, 1, 2, 1, 1, 'a', 0}, {1, 1, 1, 1, 2, 0, 1, 'a'}, {1, 1, 1, 1, 9}}
	for _, head := range heads {
		rows := [][]byte{head}
		for len(rows[0]) <= len(head)+4 {
			var next [][]byte
			for _, row := range rows {
				held(t, row)
				for _, s := range signs {
					next = append(next, append(bytes.Clone(row), s))
				}
			}
			rows = next
		}
	}
}

func TestReadOfChangedBytes(t *testing.T) {
	for _, k := range knowns() {
		for at := range k.bytes {
			held(t, k.bytes[:at])
			for s := range 256 {
				b := bytes.Clone(k.bytes)
				b[at] = byte(s)
				held(t, b)
				held(t, slices.Insert(bytes.Clone(k.bytes), at, byte(s)))
				held(t, slices.Delete(b, at, at+1))
			}
		}
		for s := range 256 {
			held(t, append(bytes.Clone(k.bytes), byte(s)))
		}
	}
}

// row is bytes of numbers and texts.
func row(list ...any) []byte {
	var out pack.Out
	for _, x := range list {
		switch x := x.(type) {
		case int:
			out.Num(x)
		case string:
			out.Text(x)
		}
	}
	b, _ := out.Done()
	return b
}

func TestReadOfBoundsAndErrors(t *testing.T) {
	tests := []struct {
		name string
		b    []byte
		err  error
	}{
		{"nothing", nil, api.ErrShort},
		{"no kind", row(0), api.ErrForm},
		{"no kind, bytes left", row(0, 1), api.ErrForm},
		{"kind 6", row(6), api.ErrRange},
		{"a kind alone", row(api.Move), api.ErrShort},
		{"a number that isn't short", []byte{0x82, 0}, api.ErrForm},
		{"shard 0", row(api.Move, 0, 1), api.ErrForm},
		{"shard 13", row(api.Move, 13, 1), api.ErrRange},
		{"a Check's shard 13", row(api.Check, 13, 0, 1, 0, ""), api.ErrRange},
		{"server 0", row(api.Move, 1, 0), api.ErrForm},
		{"server 5", row(api.Move, 1, 5), api.ErrRange},
		{"bytes left", row(api.Move, 1, 1, 0), api.ErrForm},
		{"range ahead of short", row(api.Move, 13), api.ErrRange},
		{"short ahead of a wrong shard", row(api.Move, 0), api.ErrShort},
		{"range ahead of a wrong shard", row(api.Move, 0, 5), api.ErrRange},
		{"other 0", row(api.Merge, 1, 0), api.ErrForm},
		{"other 13", row(api.Merge, 1, 13), api.ErrRange},
		{"into itself", row(api.Merge, 3, 3), api.ErrForm},
		{"a Split into itself", row(api.Split, 3, 3, 1, "a"), api.ErrForm},
		{"a Split's other 13", row(api.Split, 3, 13, 1, "a"), api.ErrRange},
		{"a Split's server 5", row(api.Split, 3, 2, 5, "a"), api.ErrRange},
		{"a Split without key", row(api.Split, 3, 2, 1, ""), api.ErrForm},
		{"a Split's long key", row(api.Split, 3, 2, 1, ofLen(2048)), api.ErrForm},
		{"a Split's longer key", row(api.Split, 3, 2, 1, ofLen(2049)), api.ErrRange},
		{"a Split's key that ends", row(api.Split, 3, 2, 1, 4), api.ErrShort},
		{"client 0", row(api.Write, 1, 0, 1, 1, api.Del, "a"), api.ErrForm},
		{"client 5", row(api.Write, 1, 5, 1, 1, api.Del, "a"), api.ErrRange},
		{"seq 0", row(api.Write, 1, 1, 0, 1, api.Del, "a"), api.ErrForm},
		{"the last seq", row(api.Write, 1, 1, api.MaxSeq, 1, api.Del, "a"), nil},
		{"a seq behind it", row(api.Write, 1, 1, api.MaxSeq+1, 1, api.Del, "a"), api.ErrRange},
		{"no operation", row(api.Write, 1, 1, 1, 0), api.ErrForm},
		{"nine operations", row(api.Write, 1, 1, 1, 9), api.ErrRange},
		{"an operation that isn't there", row(api.Write, 1, 1, 1, 2, api.Del, "a"), api.ErrShort},
		{"one operation too many", row(api.Write, 1, 1, 1, 1, api.Del, "a", api.Del, "a"), api.ErrForm},
		{"operation kind 0", row(api.Write, 1, 1, 1, 1, 0, "a"), api.ErrForm},
		{"operation kind 5", row(api.Write, 1, 1, 1, 1, 5, "a"), api.ErrRange},
		{"a Put without value", row(api.Write, 1, 1, 1, 1, api.Put, "a"), api.ErrShort},
		{"a Del with value", row(api.Write, 1, 1, 1, 1, api.Del, "a", "v"), api.ErrForm},
		{"a Cas without value", row(api.Write, 1, 1, 1, 1, api.Cas, "a", "v"), api.ErrShort},
		{"an Expect without version", row(api.Write, 1, 1, 1, 1, api.Expect, "a"), api.ErrShort},
		{"the last version", row(api.Write, 1, 1, 1, 1, api.Expect, "a", api.MaxLog), nil},
		{"a version behind it", row(api.Write, 1, 1, 1, 1, api.Expect, "a", api.MaxLog+1), api.ErrRange},
		{"a value of 64 bytes", row(api.Write, 1, 1, 1, 1, api.Put, "a", ofLen(64)), nil},
		{"a value of 65 bytes", row(api.Write, 1, 1, 1, 1, api.Put, "a", ofLen(65)), api.ErrForm},
		{"a value of 2048 bytes", row(api.Write, 1, 1, 1, 1, api.Put, "a", ofLen(2048)), api.ErrForm},
		{"a value of 2049 bytes", row(api.Write, 1, 1, 1, 1, api.Put, "a", ofLen(2049)), api.ErrRange},
		{"an old of 65 bytes", row(api.Write, 1, 1, 1, 1, api.Cas, "a", ofLen(65), ""), api.ErrForm},
		{"an old of 2048 bytes", row(api.Write, 1, 1, 1, 1, api.Cas, "a", ofLen(2048), ""), api.ErrForm},
		{"an old of 2049 bytes", row(api.Write, 1, 1, 1, 1, api.Cas, "a", ofLen(2049), ""), api.ErrRange},
		{"a Cas' value of 2048 bytes", row(api.Write, 1, 1, 1, 1, api.Cas, "a", "", ofLen(2048)), api.ErrForm},
		{"a Cas' value of 2049 bytes", row(api.Write, 1, 1, 1, 1, api.Cas, "a", "", ofLen(2049)), api.ErrRange},
		{"an operation's key of 2048 bytes", row(api.Write, 1, 1, 1, 1, api.Del, ofLen(2048)), api.ErrForm},
		{"an operation's key of 2049 bytes", row(api.Write, 1, 1, 1, 1, api.Del, ofLen(2049)), api.ErrRange},
		{"an operation without key", row(api.Write, 1, 1, 1, 1, api.Del, ""), api.ErrForm},
		{"an operation's wrong key", row(api.Write, 1, 1, 1, 1, api.Del, "\xff"), api.ErrForm},
		{"the last upto", row(api.Check, 0, api.MaxLog, 1, 0, ""), nil},
		{"an upto behind it", row(api.Check, 0, api.MaxLog+1, 1, 0, ""), api.ErrRange},
		{"no parts", row(api.Check, 0, 0, 0, 0, ""), api.ErrForm},
		{"the last part", row(api.Check, 0, 0, 64, 63, ""), nil},
		{"a part behind it", row(api.Check, 0, 0, 64, 64, ""), api.ErrForm},
		{"part 65", row(api.Check, 0, 0, 64, 65, ""), api.ErrRange},
		{"parts 65", row(api.Check, 0, 0, 65, 0, ""), api.ErrRange},
		{"data of 256 bytes", row(api.Check, 0, 0, 1, 0, ofLen(256)), nil},
		{"data of 257 bytes", row(api.Check, 0, 0, 1, 0, ofLen(257)), api.ErrForm},
		{"data of 2048 bytes", row(api.Check, 0, 0, 1, 0, ofLen(2048)), api.ErrForm},
		{"data of 2049 bytes", row(api.Check, 0, 0, 1, 0, ofLen(2049)), api.ErrRange},
		{"data that ends", row(api.Check, 0, 0, 1, 0, 3), api.ErrShort},
	}
	for _, test := range tests {
		e, err := Read(test.b)
		if err != test.err || (err == nil) != Right(e) || err != nil && !reflect.DeepEqual(e, api.Entry{}) {
			t.Errorf("%s: Read = %v, %v; want %v", test.name, e, err, test.err)
		}
		held(t, test.b)
	}
}

// P5.1: Streams and Keys.

func TestStreamsAndKeysOfKnownEntries(t *testing.T) {
	for _, k := range knowns() {
		if s := Streams(k.entry); !slices.Equal(s, k.streams) {
			t.Errorf("%s: Streams = %v; want %v", k.name, s, k.streams)
		}
		if s := Keys(k.entry); !slices.Equal(s, k.keys) {
			t.Errorf("%s: Keys = %q; want %q", k.name, s, k.keys)
		}
	}
	if s := Keys(longest()); !slices.Equal(s, slices.Repeat([]string{longKey}, api.MaxOps)) {
		t.Errorf("of the longest one: Keys = %q", s)
	}
}

func TestStreamsOfAllPairs(t *testing.T) {
	for one := 1; one <= api.MaxShards; one++ {
		for two := 1; two <= api.MaxShards; two++ {
			for _, kind := range []int{api.Split, api.Merge} {
				want := []int{0, one, two}
				slices.Sort(want)
				if one == two {
					want = nil
				}
				if s := Streams(api.Entry{Kind: kind, Shard: one, Other: two, Server: 1, Key: "a"}); !slices.Equal(s, want) {
					t.Errorf("kind %d, %d and %d: Streams = %v", kind, one, two, s)
				}
			}
		}
	}
}

func TestStreamsAndKeysOfWrongEntries(t *testing.T) {
	for _, k := range knowns() {
		for _, d := range edges(k.entry) {
			e := alter(k.entry, d.change)
			if s := Streams(e); (len(s) > 0) != d.right {
				t.Errorf("%s, %s: Streams = %v", k.name, d.name, s)
			}
			if s := Keys(e); (len(s) > 0) != (d.right && len(k.keys) > 0) {
				t.Errorf("%s, %s: Keys = %q", k.name, d.name, s)
			}
		}
	}
	if len(Streams(api.Entry{})) > 0 || len(Keys(api.Entry{})) > 0 {
		t.Error("the zero entry has streams or keys")
	}
}

// P5.1: Same.

func TestSameOfAllPairs(t *testing.T) {
	list := samples()
	written := make([][]byte, len(list))
	for i, e := range list {
		written[i], _ = Bytes(e)
	}
	for i, a := range list {
		for j, b := range list {
			// Fields that a kind hasn't are zero in all of them.
			if got, want := Same(a, b), alike(a, b); got != want || got != bytes.Equal(written[i], written[j]) {
				t.Fatalf("Same(%v, %v) = %v", a, b, got)
			}
		}
	}
}

func TestSameOfWrongEntries(t *testing.T) {
	for _, k := range knowns() {
		for _, d := range edges(k.entry) {
			e := alter(k.entry, d.change)
			if Same(e, e) != d.right {
				t.Errorf("%s, %s: Same = %v", k.name, d.name, !d.right)
			}
			if !d.right && (Same(e, k.entry) || Same(k.entry, e)) {
				t.Errorf("%s, %s: a wrong one is the same as a right one", k.name, d.name)
			}
		}
	}
	if Same(api.Entry{}, api.Entry{}) {
		t.Error("zero entries are the same")
	}
}

func TestSameLooksAtEachOperation(t *testing.T) {
	for at := range api.MaxOps {
		for _, o := range []api.Op{{Kind: api.Del, Key: longKey}, {Kind: api.Cas, Key: "a", Old: ofLen(64), Value: ofLen(64)},
			{Kind: api.Cas, Key: longKey, Old: ofLen(63), Value: ofLen(64)}, {Kind: api.Cas, Key: longKey, Old: ofLen(64), Value: ofLen(63)}} {
			e := longest()
			e.Ops[at] = o
			if Same(e, longest()) || !Same(e, e) {
				t.Errorf("with %v at %d: Same fails", o, at)
			}
		}
	}
	if e := longest(); Same(alter(e, func(e *api.Entry) { e.Ops = e.Ops[:7] }), e) {
		t.Error("one operation fewer is the same")
	}
}

func TestSameOfOrderOfOperations(t *testing.T) {
	a := knowns()[4].entry
	b := alter(a, func(e *api.Entry) { slices.Reverse(e.Ops) })
	if Same(a, b) {
		t.Error("another order is the same")
	}
}

// P5.1: nothing that is handed in is changed, and answers are the caller's own.

func TestAnswersAreTheCallersOwn(t *testing.T) {
	for _, k := range knowns() {
		e := alter(k.entry, func(e *api.Entry) {})
		b, _ := Bytes(e)
		read, _ := Read(b)
		for i := range b {
			b[i] = 0xff
		}
		if !alike(read, k.entry) || !alike(e, k.entry) {
			t.Errorf("%s: bytes are shared", k.name)
		}
		for i := range read.Ops {
			read.Ops[i] = api.Op{}
		}
		for i := range read.Data {
			read.Data[i]++
		}
		streams, keys := Streams(e), Keys(e)
		for i := range streams {
			streams[i] = -1
		}
		for i := range keys {
			keys[i] = ""
		}
		Same(e, e)
		Right(e)
		if !alike(e, k.entry) || !slices.Equal(Streams(e), k.streams) || !slices.Equal(Keys(e), k.keys) {
			t.Errorf("%s: an answer is shared", k.name)
		}
		if again, err := Read(k.bytes); err != nil || !alike(again, k.entry) {
			t.Errorf("%s: what is read is shared", k.name)
		}
	}
}

func TestNothingHandedInIsChanged(t *testing.T) {
	e := api.Entry{Kind: api.Write, Shard: 1, Client: 1, Seq: 1, Other: 7, Data: []byte{1}, Ops: []api.Op{{Kind: api.Del, Key: "a", Value: "v", Old: "o", Version: 9}}}
	before := alter(e, func(e *api.Entry) {})
	Right(e)
	Bytes(e)
	Streams(e)
	Keys(e)
	Same(e, e)
	if !reflect.DeepEqual(e, before) {
		t.Errorf("%v became %v", before, e)
	}
}

// P5.2.

func TestWhatIsWrittenIsReadAsTheSame(t *testing.T) {
	for _, e := range samples() {
		b, err := Bytes(e)
		if err != nil {
			t.Fatalf("Bytes(%v): %v", e, err)
		}
		read, err := Read(b)
		if err != nil || !alike(read, e) || !Same(read, e) {
			t.Fatalf("%v is read as %v, %v", e, read, err)
		}
		held(t, b)
	}
}
