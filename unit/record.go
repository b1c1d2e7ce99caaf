package unit

import (
	"tidewater/api"
	"tidewater/pack"
)

// The kinds of records.
const (
	pageRecord = 1
	trimRecord = 2
	sealRecord = 3
)

// The greatest addresses: of a page, and up to which a unit may be trimmed.
const (
	lastAddress = api.MaxLog - 1
	lastTrim    = api.MaxLog
)

// A record is what its kind has of these; the rest is noughts.
type record struct {
	kind  int
	at    int // of a page, or up to where it is trimmed
	epoch int
	page  string
}

// bytes is a record's bytes.
func (r record) bytes() ([]byte, error) {
	var out pack.Out
	out.Num(r.kind)
	switch r.kind {
	case pageRecord:
		out.Num(r.at)
		out.Text(r.page)
	case trimRecord:
		out.Num(r.at)
		out.Num(r.epoch)
	case sealRecord:
		out.Num(r.epoch)
	}
	return out.Done()
}

// read is the record that bytes are.
func read(b []byte) (record, error) {
	in := pack.Read(b)
	r := record{kind: in.Num(sealRecord)}
	switch r.kind {
	case pageRecord:
		r.at = in.Num(lastAddress)
		r.page = in.Text(api.MaxPage)
		if r.page == "" {
			return record{}, api.ErrForm
		}
	case trimRecord:
		r.at = in.Num(lastTrim)
		r.epoch = in.Num(api.MaxEpoch)
	case sealRecord:
		r.epoch = in.Num(api.MaxEpoch)
	default:
		return record{}, api.ErrForm
	}
	if in.End() != nil {
		return record{}, api.ErrForm
	}
	return r, nil
}
