package entry

import (
	"tidewater/api"
	"tidewater/pack"
	"tidewater/runes"
)

// maxText is how many bytes of a text are read: more than a right entry has, so that such a one is of the wrong form, not out of range.
const maxText = 2048

// fields tells which fields beside its key an operation of a kind has.
func fields(kind int) (old, value, version bool) {
	switch kind {
	case api.Put:
		return false, true, false
	case api.Cas:
		return true, true, false
	case api.Expect:
		return false, false, true
	}
	return false, false, false
}

// plain is operations with those fields alone that their kinds have.
func plain(ops []api.Op) []api.Op {
	var list []api.Op
	for _, o := range ops {
		old, value, version := fields(o.Kind)
		p := api.Op{Kind: o.Kind, Key: o.Key}
		if old {
			p.Old = o.Old
		}
		if value {
			p.Value = o.Value
		}
		if version {
			p.Version = o.Version
		}
		list = append(list, p)
	}
	return list
}

// wrongOp tells whether a plain operation isn't right: the fields that it hasn't are zero, so right.
func wrongOp(o api.Op) bool {
	return !within(o.Kind, api.Put, api.Expect) ||
		runes.Key(o.Key) != nil ||
		len(o.Old) > api.MaxValue ||
		len(o.Value) > api.MaxValue ||
		!within(o.Version, 0, api.MaxLog)
}

// putOp writes an operation.
func putOp(out *pack.Out, o api.Op) {
	out.Num(o.Kind)
	out.Text(o.Key)
	old, value, version := fields(o.Kind)
	if old {
		out.Text(o.Old)
	}
	if value {
		out.Text(o.Value)
	}
	if version {
		out.Num(o.Version)
	}
}

// takeOps reads operations, and how many there are ahead of them. One of kind 0 has its key, as all have, and nothing behind it.
func takeOps(in *pack.In) []api.Op {
	var ops []api.Op
	for range in.Num(api.MaxOps) {
		o := api.Op{Kind: in.Num(api.Expect), Key: in.Text(maxText)}
		old, value, version := fields(o.Kind)
		if old {
			o.Old = in.Text(maxText)
		}
		if value {
			o.Value = in.Text(maxText)
		}
		if version {
			o.Version = in.Num(api.MaxLog)
		}
		ops = append(ops, o)
	}
	return ops
}

// keys is the keys of operations.
func keys(ops []api.Op) []string {
	var list []string
	for _, o := range ops {
		list = append(list, o.Key)
	}
	return list
}
