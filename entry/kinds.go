package entry

import (
	"slices"

	"tidewater/api"
	"tidewater/pack"
	"tidewater/runes"
)

// kind is what an entry of one kind has: its other fields are left out of it.
type kind interface {
	right() bool
	put(out *pack.Out) // what stands behind the kind's number
	entry() api.Entry
	streams() []int
	same(other kind) bool // of right ones
}

// of is what an entry has; nil, if there is no such kind.
func of(e api.Entry) kind {
	switch e.Kind {
	case api.Write:
		return write{e.Shard, e.Client, e.Seq, plain(e.Ops)}
	case api.Move:
		return move{e.Shard, e.Server}
	case api.Split:
		return split{e.Shard, e.Other, e.Server, e.Key}
	case api.Merge:
		return merge{e.Shard, e.Other}
	case api.Check:
		return check{e.Shard, e.Upto, e.Parts, e.Part, string(e.Data)}
	}
	return nil
}

// rightOf is what a right entry has; nil of another one.
func rightOf(e api.Entry) kind {
	has := of(e)
	if has == nil || !has.right() {
		return nil
	}
	return has
}

// take reads what an entry has; nil, if there is no such kind. (Fields of a literal are read in the order in which they stand.)
func take(in *pack.In) kind {
	switch in.Num(api.Check) {
	case api.Write:
		return write{in.Num(api.MaxShards), in.Num(api.MaxClients), in.Num(api.MaxSeq), takeOps(in)}
	case api.Move:
		return move{in.Num(api.MaxShards), in.Num(api.MaxServers)}
	case api.Split:
		return split{in.Num(api.MaxShards), in.Num(api.MaxShards), in.Num(api.MaxServers), in.Text(maxText)}
	case api.Merge:
		return merge{in.Num(api.MaxShards), in.Num(api.MaxShards)}
	case api.Check:
		return check{in.Num(api.MaxShards), in.Num(api.MaxLog), in.Num(api.MaxParts), in.Num(api.MaxParts), in.Text(maxText)}
	}
	return nil
}

// write is operations by a client.
type write struct {
	shard, client, seq int
	ops                []api.Op // plain ones
}

func (w write) right() bool {
	return within(w.shard, 1, api.MaxShards) &&
		within(w.client, 1, api.MaxClients) &&
		within(w.seq, 1, api.MaxSeq) &&
		within(len(w.ops), 1, api.MaxOps) &&
		!slices.ContainsFunc(w.ops, wrongOp)
}

func (w write) put(out *pack.Out) {
	putNums(out, w.shard, w.client, w.seq, len(w.ops))
	for _, o := range w.ops {
		putOp(out, o)
	}
}

func (w write) entry() api.Entry {
	return api.Entry{Kind: api.Write, Shard: w.shard, Client: w.client, Seq: w.seq, Ops: w.ops}
}

func (w write) streams() []int { return []int{w.shard} }

func (w write) same(other kind) bool {
	o, ok := other.(write)
	return ok && w.shard == o.shard && w.client == o.client && w.seq == o.seq && slices.Equal(w.ops, o.ops)
}

// move is a shard's move to a server.
type move struct {
	shard, server int
}

func (m move) right() bool {
	return within(m.shard, 1, api.MaxShards) && within(m.server, 1, api.MaxServers)
}

func (m move) put(out *pack.Out) { putNums(out, m.shard, m.server) }

func (m move) entry() api.Entry {
	return api.Entry{Kind: api.Move, Shard: m.shard, Server: m.server}
}

func (m move) streams() []int { return []int{0, m.shard} }

func (m move) same(other kind) bool {
	o, ok := other.(move)
	return ok && m == o
}

// split is a split of a shard's keys from a key on into another shard, at a server.
type split struct {
	shard, other, server int
	key                  string
}

func (s split) right() bool {
	return apart(s.shard, s.other) && within(s.server, 1, api.MaxServers) && runes.Key(s.key) == nil
}

func (s split) put(out *pack.Out) {
	putNums(out, s.shard, s.other, s.server)
	out.Text(s.key)
}

func (s split) entry() api.Entry {
	return api.Entry{Kind: api.Split, Shard: s.shard, Other: s.other, Server: s.server, Key: s.key}
}

func (s split) streams() []int { return both(s.shard, s.other) }

func (s split) same(other kind) bool {
	o, ok := other.(split)
	return ok && s == o
}

// merge is a merge of another shard into a shard.
type merge struct {
	shard, other int
}

func (m merge) right() bool { return apart(m.shard, m.other) }

func (m merge) put(out *pack.Out) { putNums(out, m.shard, m.other) }

func (m merge) entry() api.Entry {
	return api.Entry{Kind: api.Merge, Shard: m.shard, Other: m.other}
}

func (m merge) streams() []int { return both(m.shard, m.other) }

func (m merge) same(other kind) bool {
	o, ok := other.(merge)
	return ok && m == o
}

// check is a part of a checkpoint of a shard's state, or of the map.
type check struct {
	shard, upto, parts, part int
	data                     string
}

func (c check) right() bool {
	return within(c.shard, 0, api.MaxShards) &&
		within(c.upto, 0, api.MaxLog) &&
		within(c.parts, 1, api.MaxParts) &&
		within(c.part, 0, c.parts-1) &&
		len(c.data) <= api.MaxData
}

func (c check) put(out *pack.Out) {
	putNums(out, c.shard, c.upto, c.parts, c.part)
	out.Text(c.data)
}

func (c check) entry() api.Entry {
	return api.Entry{Kind: api.Check, Shard: c.shard, Upto: c.upto, Parts: c.parts, Part: c.part, Data: []byte(c.data)}
}

func (c check) streams() []int { return []int{c.shard} }

func (c check) same(other kind) bool {
	o, ok := other.(check)
	return ok && c == o
}

// within tells whether a number is from the least one to the most.
func within(n, least, most int) bool { return least <= n && n <= most }

// apart tells whether two shards are such, and not one.
func apart(shard, other int) bool {
	return within(shard, 1, api.MaxShards) && within(other, 1, api.MaxShards) && shard != other
}

// both is the streams of what changes the map and two shards.
func both(shard, other int) []int { return []int{0, min(shard, other), max(shard, other)} }

// putNums writes numbers, without how many there are.
func putNums(out *pack.Out, list ...int) {
	for _, n := range list {
		out.Num(n)
	}
}
