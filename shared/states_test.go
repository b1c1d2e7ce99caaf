package shared_test

import (
	"strings"
	"testing"

	"tidewater/api"
	"tidewater/chain"
	"tidewater/page"
	"tidewater/shared"
	"tidewater/unit"
)

// P17.1: Page at address 1 of one chain whose copies are in all sorts of states, the answer and what it leaves written out by hand.

// others is what units may have, by a sign, that isn't a page.
func others() map[rune][]byte {
	return map[rune][]byte{'j': page.Junk(), 'x': []byte("x"), 'z': []byte("\x01\x01")}
}

// content is what a unit has, by a sign: j junk, x and z other bytes that aren't a page, p and q pages; none of another sign.
func content(t *testing.T, sign rune) []byte {
	t.Helper()
	switch sign {
	case 'p':
		return pageOf(t, 1)
	case 'q':
		return pageOf(t, 0, 2)
	}
	return others()[sign]
}

// choke fills a unit with pages of great own addresses, up to where no record has room.
func choke(t *testing.T, u *unit.Unit) {
	t.Helper()
	at, size := 4000, 1500
	for size > 0 {
		switch err := u.Write(u.Epoch(), at, make([]byte, size)); err {
		case nil:
			at++
		case api.ErrFull:
			size /= 40
		default:
			t.Fatal(err)
		}
	}
}

// stood is units in states by signs, at own address 1, by epoch 2: what content has, and . nothing, - down, t trimmed, s sealed by epoch 3, f without room, d with a device that stops.
func stood(t *testing.T, signs string) *scene {
	t.Helper()
	var copies []int
	for i := range signs {
		copies = append(copies, i)
	}
	c := newScene(t, by(2, copies), len(signs), 1)
	for i, sign := range signs {
		switch sign {
		case '.':
		case '-':
			c.up[i] = false
		case 't':
			must(t, c.all[i].Trim(0, 2))
		case 's':
			c.seal(t, 3, i)
		case 'f':
			choke(t, c.all[i])
		case 'd':
			c.ds[i].Stop(0)
		default:
			must(t, c.all[i].Write(0, 1, content(t, sign)))
		}
	}
	return c
}

// signs is units' states at own address 1, as far as they show.
func (c *scene) signs(t *testing.T) string {
	t.Helper()
	text := ""
	for i, u := range c.all {
		b, err := u.Read(1<<30, 1)
		sign := "."
		switch {
		case !c.up[i]:
			sign = "-"
		case err == api.ErrTrimmed:
			sign = "t"
		case u.Epoch() == 3:
			sign = "s"
		}
		for _, s := range "pqjxz" {
			if err == nil && string(b) == string(content(t, s)) {
				sign = string(s)
			}
		}
		text += sign
	}
	return text
}

func TestPageOfKnownStates(t *testing.T) {
	for _, k := range []struct {
		before string
		told   rune // the content that is told of
		err    error
		after  string
	}{
		{".", 'j', nil, "j"},
		{"p", 'p', nil, "p"},
		{"q", 'q', nil, "q"},
		{"j", 'j', nil, "j"},
		{"x", 'j', nil, "x"},
		{"z", 'j', nil, "z"},
		{"t", 0, api.ErrTrimmed, "t"},
		{"-", 0, api.ErrDown, "-"},
		{"s", 0, api.ErrSealed, "s"},
		{"f", 0, api.ErrFull, "."},
		{"d", 0, api.ErrDown, "."},

		{"..", 'j', nil, "jj"},
		{"p.", 'p', nil, "pp"},
		{"j.", 'j', nil, "jj"},
		{"x.", 'j', nil, "xx"},
		{"z.", 'j', nil, "zz"},
		{".p", 'p', nil, ".p"},
		{".x", 'j', nil, ".x"},
		{"-p", 'p', nil, "-p"},
		{"sp", 'p', nil, "sp"},
		{"tp", 'p', nil, "tp"},
		{"pq", 'q', nil, "pq"},
		{"pj", 'j', nil, "pj"},
		{"p-", 0, api.ErrDown, "p-"},
		{"-.", 0, api.ErrDown, "-."},
		{".-", 0, api.ErrDown, ".-"},
		{"t.", 0, api.ErrTrimmed, "t."},
		{".t", 0, api.ErrTrimmed, ".t"},
		{"pt", 0, api.ErrTrimmed, "pt"},
		{"s.", 0, api.ErrSealed, "s."},
		{".s", 0, api.ErrSealed, ".s"},
		{"f.", 0, api.ErrFull, ".."},
		{".f", 0, api.ErrFull, "j."},
		{"pf", 0, api.ErrFull, "p."},
		{"d.", 0, api.ErrDown, ".."},
		{".d", 0, api.ErrDown, "j."},
		{"pd", 0, api.ErrDown, "p."},

		{"...", 'j', nil, "jjj"},
		{"p..", 'p', nil, "ppp"},
		{"pp.", 'p', nil, "ppp"},
		{"j..", 'j', nil, "jjj"},
		{".j.", 'j', nil, "jjj"},
		{"..p", 'p', nil, "..p"},
		{"--p", 'p', nil, "--p"},
		{"t.p", 'p', nil, "t.p"},
		{".p.", 0, api.ErrState, "jp."},
		{"pq.", 0, api.ErrState, "pq."},
		{".-.", 0, api.ErrDown, "j-."},
		{"p-.", 0, api.ErrDown, "p-."},
		{"-p.", 0, api.ErrDown, "-p."},
		{".t.", 0, api.ErrTrimmed, "jt."},
		{"pt.", 0, api.ErrTrimmed, "pt."},
		{"p.t", 0, api.ErrTrimmed, "p.t"},
		{".s.", 0, api.ErrSealed, "js."},
		{"ps.", 0, api.ErrSealed, "ps."},
		{".f.", 0, api.ErrFull, "j.."},
	} {
		c := stood(t, k.before)
		want := shared.Page{At: 1, Junk: k.told == 'j'}
		switch k.told {
		case 'p':
			want.Entry, want.Backs = entryOf(1), []api.Back{{Stream: 1}}
		case 'q':
			want.Entry, want.Backs = entryOf(0, 2), []api.Back{{Stream: 0}, {Stream: 2}}
		case 0:
			want = shared.Page{}
		}
		if got, err := c.log().Page(1); err != k.err || !like(got, want) {
			t.Errorf("of %s it is %v, %v, not %v, %v", k.before, got, err, want, k.err)
		}
		if after := c.signs(t); after != k.after {
			t.Errorf("of %s it leaves %s, not %s", k.before, after, k.after)
		}
	}
}

// P17.1: all states of up to three copies, each beside each, and all calls, held against the words.

// each goes through all texts of so many signs.
func each(signs string, count int, do func(text string)) {
	if count == 0 {
		do("")
		return
	}
	for _, sign := range signs {
		each(signs, count-1, func(text string) { do(string(sign) + text) })
	}
}

// ofStates is calls about address 1.
func ofStates() []call {
	return []call{paging(1), pagings(0, 3), pagings(1, 2), beginning(), trimming(2), trimming(3), appending(merge())}
}

func TestCallsOfAllStates(t *testing.T) {
	const all = ".-tsfdpqjx"
	for count := 1; count <= 3; count++ {
		for _, first := range all {
			t.Run(string(first)+strings.Repeat("?", count-1), func(t *testing.T) {
				t.Parallel()
				each(all, count-1, func(text string) {
					text = string(first) + text
					for _, k := range ofStates() {
						// What stops doesn't show on a device: so both scenes are made anew.
						c, twin := stood(t, text), stood(t, text)
						c.s, twin.s = sequencer(t, 2, 3), sequencer(t, 2, 3)
						if wrong, _ := k.puts(c.log(), c, twin); wrong != "" {
							t.Fatalf("%s of %s: %s", k.name, text, wrong)
						}
					}
				})
			})
		}
	}
}

// What is no page of layer 6 is junk, whatever it looks like.
func TestBytesThatAreNoPage(t *testing.T) {
	p := pageOf(t, 1)
	for _, b := range [][]byte{
		{1}, []byte("page"), append(p[:len(p):len(p)], 0), p[:len(p)-1], p[1:], append([]byte{2}, p[1:]...), make([]byte, 2), make([]byte, 2048), append([]byte{0}, p...),
	} {
		c := newScene(t, by(0, []int{0, 1}), 2, 1)
		must(t, chain.Write(c.all, c.p, 0, b))
		must(t, chain.Write(c.all, c.p, 1, p))
		c.s = sequencer(t, 0, 2)
		if got, err := c.log().Page(0); err != nil || !like(got, shared.Page{Junk: true}) {
			t.Errorf("of %q it is %v, %v", b, got, err)
		}
		if all, err := c.log().Pages(0, 2); err != nil || len(all) != 1 || all[0].At != 1 {
			t.Errorf("behind %q there is %v, %v", b, all, err)
		}
		if got, err := c.all[1].Read(0, 0); err != nil || string(got) != string(b) {
			t.Errorf("%q has become %q, %v", b, got, err)
		}
	}
}
