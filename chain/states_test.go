package chain_test

import (
	"slices"
	"strconv"
	"strings"
	"testing"

	"tidewater/api"
	"tidewater/chain"
	"tidewater/disk"
	"tidewater/plan"
)

// P14.1: each call on chains whose copies are in all states, each beside each. By epoch 2, at address 1.

// A stand is a state of one unit: the bytes of its device, and its shelf (nil: it is down).
type stand struct {
	name  string
	image []byte
	shelf *shelf
}

// stands is all states of a unit.
func stands(t *testing.T) []stand {
	t.Helper()
	all := []stand{{name: "down"}, newStand(t, "x", 3, nil), newStand(t, "x", 1, nil)}
	for _, has := range []string{"nothing", "x", "xy", "junk", "trimmed"} {
		for _, device := range []error{nil, api.ErrFull, api.ErrDown} {
			all = append(all, newStand(t, has, 2, device))
		}
	}
	return all
}

// newStand is a state of a unit that is sealed by an epoch, has something at address 1, and whose device may have an error.
func newStand(t *testing.T, has string, epoch int, device error) stand {
	t.Helper()
	us, ds := fresh(t, 1, 1)
	u, s := us[0], newShelf()
	s.epoch, s.device = epoch, device
	_, err := u.Seal(epoch)
	must(t, err)
	switch has {
	case "nothing":
	case "trimmed":
		must(t, u.Trim(epoch, 2))
		s.trimmed = 2
	case "junk":
		has = junk
		fallthrough
	default:
		must(t, u.Write(epoch, 1, []byte(has)))
		s.pages[1] = has
	}
	if device == api.ErrFull {
		choke(t, u)
		for at := 4000; u.Has(at); at++ {
			b, err := u.Read(epoch, at)
			must(t, err)
			s.pages[at] = string(b)
		}
	}
	name := has + " by epoch " + strconv.Itoa(epoch)
	if device != nil {
		name += ", " + device.Error()
	}
	return stand{name, ds[0].Image(), s}
}

// stood is units and shelves in states.
func stood(t *testing.T, row []stand) (chain.Units, rack) {
	t.Helper()
	var us chain.Units
	var r rack
	for _, s := range row {
		if s.shelf == nil {
			us, r = append(us, nil), append(r, nil)
			continue
		}
		d, err := disk.From(s.image)
		must(t, err)
		us, r = append(us, open(t, d)), append(r, s.shelf.clone())
		if s.shelf.device == api.ErrDown {
			d.Stop(0)
		}
	}
	return us, r
}

// onOne is calls at address 1 of one chain of so many copies.
func onOne(count int) []call {
	p := sized(2, 0, 1, count)
	copies := p.Chains[0]
	all := []call{
		reading(p, 1), filling(p, 1), tailing(p),
		writing(p, 1, "x"), writing(p, 1, junk), writing(p, 1, ""), writing(p, 1, strings.Repeat("x", 2049)),
		others(2, copies, 1, "x"), others(2, copies, 1, junk), others(2, copies, 1, ""),
		trimming(p, 0), trimming(p, 1), trimming(p, 2),
	}
	for k := -1; k <= count; k++ {
		all = append(all, stepping(p, 1, k, "x"))
	}
	return all
}

func TestAllStates(t *testing.T) {
	all := stands(t)
	for count := 1; count <= 3; count++ {
		calls := onOne(count)
		for i, first := range all {
			t.Run(strconv.Itoa(count)+" copies, "+strconv.Itoa(i), func(t *testing.T) {
				t.Parallel()
				done := map[error]int{}
				eachRow(all, []stand{first}, count, func(row []stand) {
					for _, c := range calls {
						us, r := stood(t, row)
						c.name += named(row)
						done[c.puts(t, us, r, 0, 1, 2).err]++
					}
				})
				if done[api.ErrRange] == 0 || len(done) < 2 {
					t.Errorf("just these answers: %v", done)
				}
			})
		}
	}
}

// eachRow goes through all rows of so many states that begin with some.
func eachRow(all, begun []stand, count int, do func(row []stand)) {
	if len(begun) == count {
		do(begun)
		return
	}
	for _, s := range all {
		eachRow(all, append(begun[:len(begun):len(begun)], s), count, do)
	}
}

// named is what a row of states is called.
func named(row []stand) string {
	var names []string
	for _, s := range row {
		names = append(names, s.name)
	}
	return " [" + strings.Join(names, "; ") + "]"
}

// P14.1: the same states, each call's answer and what it leaves written out by hand.

// A known is a call on copies in states, and what the words make of it: the state of each copy behind it (by what it has at address 1).
type known struct {
	before string
	call   string
	b      string
	err    error
	after  string
}

// letter is a unit's state by a sign: - down, . nothing, x and y a page, j junk, t trimmed, s sealed above, f full, d a device that is down.
func letter(t *testing.T, sign rune) stand {
	t.Helper()
	switch sign {
	case '-':
		return stand{name: "down"}
	case '.':
		return newStand(t, "nothing", 2, nil)
	case 'x', 'y':
		return newStand(t, string(sign), 2, nil)
	case 'j':
		return newStand(t, "junk", 0, nil)
	case 't':
		return newStand(t, "trimmed", 1, nil)
	case 's':
		return newStand(t, "nothing", 3, nil)
	case 'f':
		return newStand(t, "nothing", 2, api.ErrFull)
	case 'd':
		return newStand(t, "nothing", 2, api.ErrDown)
	}
	t.Fatalf("no state %q", sign)
	return stand{}
}

// signs is units' states, as far as they show: what is at address 1; full units and those with a device that is down are as nothing.
func signs(us chain.Units) string {
	text := ""
	for _, u := range us {
		if u == nil {
			text += "-"
			continue
		}
		b, err := u.Read(anyEpoch, 1)
		switch {
		case err == api.ErrTrimmed:
			text += "t"
		case err == api.ErrUnwritten && u.Epoch() == 3:
			text += "s"
		case err == api.ErrUnwritten:
			text += "."
		case string(b) == junk:
			text += "j"
		default:
			text += string(b)
		}
	}
	return text
}

// does does a call by its name.
func does(t *testing.T, name string, us chain.Units, p plan.Plan) ([]byte, error) {
	t.Helper()
	copies := p.Chains[0]
	name, arg, _ := strings.Cut(name, " ")
	switch name {
	case "Read":
		return chain.Read(us, p, 1)
	case "Fill":
		return chain.Fill(us, p, 1)
	case "Write":
		return nil, chain.Write(us, p, 1, []byte(arg))
	case "Others":
		return nil, chain.Others(us, p.Epoch, copies, 1, []byte(arg))
	case "Step0", "Step1", "Step2":
		return nil, chain.Step(us, p, 1, int(name[4]-'0'), []byte(arg))
	}
	t.Fatalf("no call %s", name)
	return nil, nil
}

func TestKnown(t *testing.T) {
	for _, k := range allKnown() {
		t.Run(k.call+" of "+k.before, func(t *testing.T) {
			var row []stand
			for _, sign := range k.before {
				row = append(row, letter(t, sign))
			}
			us, _ := stood(t, row)
			b, err := does(t, k.call, us, sized(2, 0, 1, len(us)))
			if err != k.err || string(b) != k.b || err != nil && b != nil {
				t.Errorf("answers %q, %v, not %q, %v", b, err, k.b, k.err)
			}
			if got := signs(us); got != k.after {
				t.Errorf("leaves %s, not %s", got, k.after)
			}
		})
	}
}

func allKnown() []known {
	return slices.Concat(knownWrites(), knownSteps(), knownReads(), knownFills())
}

func knownWrites() []known {
	return []known{
		{".", "Write x", "", nil, "x"},
		{"..", "Write x", "", nil, "xx"},
		{"...", "Write x", "", nil, "xxx"},
		{"x", "Write x", "", api.ErrWritten, "x"},
		{"y", "Write x", "", api.ErrWritten, "y"},
		{"j..", "Write x", "", api.ErrWritten, "j.."},
		{"x..", "Write x", "", api.ErrWritten, "x.."},
		{"xxx", "Write x", "", api.ErrWritten, "xxx"},
		{".x.", "Write x", "", nil, "xxx"},
		{"..x", "Write x", "", nil, "xxx"},
		{".xx", "Write x", "", nil, "xxx"},
		{".y.", "Write x", "", api.ErrState, "xy."},
		{".j.", "Write x", "", api.ErrState, "xj."},
		{"..y", "Write x", "", api.ErrState, "xxy"},
		{".xy", "Write x", "", api.ErrState, "xxy"},
		{"-..", "Write x", "", api.ErrDown, "-.."},
		{".-.", "Write x", "", api.ErrDown, "x-."},
		{"..-", "Write x", "", api.ErrDown, "xx-"},
		{"x-.", "Write x", "", api.ErrWritten, "x-."},
		{".y-", "Write x", "", api.ErrState, "xy-"},
		{"-y.", "Write x", "", api.ErrDown, "-y."},
		{"s..", "Write x", "", api.ErrSealed, "s.."},
		{".s.", "Write x", "", api.ErrSealed, "xs."},
		{"..s", "Write x", "", api.ErrSealed, "xxs"},
		{"t..", "Write x", "", api.ErrTrimmed, "t.."},
		{".t.", "Write x", "", api.ErrTrimmed, "xt."},
		{"f..", "Write x", "", api.ErrFull, "..."},
		{".f.", "Write x", "", api.ErrFull, "x.."},
		{"..f", "Write x", "", api.ErrFull, "xx."},
		{"d..", "Write x", "", api.ErrDown, "..."},
		{".d.", "Write x", "", api.ErrDown, "x.."},
		{"...", "Write ", "", api.ErrLong, "..."},
		{"xxx", "Write ", "", api.ErrLong, "xxx"},
		{"-..", "Write ", "", api.ErrDown, "-.."},
	}
}

func knownSteps() []known {
	return []known{
		{"...", "Step0 x", "", nil, "x.."},
		{"...", "Step1 x", "", nil, ".x."},
		{"...", "Step2 x", "", nil, "..x"},
		{"x..", "Step0 x", "", api.ErrWritten, "x.."},
		{".x.", "Step1 x", "", nil, ".x."},
		{"..x", "Step2 x", "", nil, "..x"},
		{".y.", "Step1 x", "", api.ErrState, ".y."},
		{"..j", "Step2 x", "", api.ErrState, "..j"},
		{"--.", "Step2 x", "", nil, "--x"},
		{".--", "Step0 x", "", nil, "x--"},
		{"x-x", "Step1 x", "", api.ErrDown, "x-x"},
		{"xsx", "Step1 x", "", api.ErrSealed, "xsx"},
		{"xtx", "Step1 x", "", api.ErrTrimmed, "xtx"},
		{"xfx", "Step1 x", "", api.ErrFull, "x.x"},
		{"xxx", "Step1 ", "", api.ErrLong, "xxx"},

		{"...", "Others x", "", nil, ".xx"},
		{"y..", "Others x", "", nil, "yxx"},
		{"-..", "Others x", "", nil, "-xx"},
		{"s..", "Others x", "", nil, "sxx"},
		{"t..", "Others x", "", nil, "txx"},
		{".x.", "Others x", "", nil, ".xx"},
		{".y.", "Others x", "", api.ErrState, ".y."},
		{"..y", "Others x", "", api.ErrState, ".xy"},
		{".-.", "Others x", "", api.ErrDown, ".-."},
		{"..-", "Others x", "", api.ErrDown, ".x-"},
		{".s.", "Others x", "", api.ErrSealed, ".s."},
		{"..t", "Others x", "", api.ErrTrimmed, ".xt"},
		{"..f", "Others x", "", api.ErrFull, ".x."},
		{"..", "Others x", "", nil, ".x"},
		{".", "Others x", "", nil, "."},
		{"-", "Others ", "", nil, "-"},
		{"..", "Others ", "", api.ErrLong, ".."},
	}
}

func knownReads() []known {
	return []known{
		{".", "Read", "", api.ErrUnwritten, "."},
		{"x", "Read", "x", nil, "x"},
		{"j", "Read", junk, nil, "j"},
		{"t", "Read", "", api.ErrTrimmed, "t"},
		{"-", "Read", "", api.ErrDown, "-"},
		{"s", "Read", "", api.ErrSealed, "s"},
		{"f", "Read", "", api.ErrUnwritten, "."},
		{"..", "Read", "", api.ErrUnwritten, ".."},
		{"...", "Read", "", api.ErrUnwritten, "..."},
		{"xxx", "Read", "x", nil, "xxx"},
		{"x..", "Read", "x", nil, "xxx"},
		{"xx.", "Read", "x", nil, "xxx"},
		{"x.", "Read", "x", nil, "xx"},
		{"j..", "Read", junk, nil, "jjj"},
		{".x", "Read", "x", nil, ".x"},
		{"-x", "Read", "x", nil, "-x"},
		{"--x", "Read", "x", nil, "--x"},
		{"yyx", "Read", "x", nil, "yyx"},
		{"ssx", "Read", "x", nil, "ssx"},
		{"ttx", "Read", "x", nil, "ttx"},
		{"..x", "Read", "x", nil, "..x"},
		{".x.", "Read", "", api.ErrUnwritten, ".x."},
		{"xy.", "Read", "", api.ErrState, "xy."},
		{"x-", "Read", "", api.ErrDown, "x-"},
		{"xx-", "Read", "", api.ErrDown, "xx-"},
		{"-.", "Read", "", api.ErrDown, "-."},
		{"-x.", "Read", "", api.ErrDown, "-x."},
		{"x-.", "Read", "", api.ErrDown, "x-."},
		{".-.", "Read", "", api.ErrUnwritten, ".-."},
		{"xt", "Read", "", api.ErrTrimmed, "xt"},
		{"-t", "Read", "", api.ErrTrimmed, "-t"},
		{"t.", "Read", "", api.ErrTrimmed, "t."},
		{"t-.", "Read", "", api.ErrTrimmed, "t-."},
		{"xt.", "Read", "", api.ErrTrimmed, "xt."},
		{"xs", "Read", "", api.ErrSealed, "xs"},
		{"-s", "Read", "", api.ErrSealed, "-s"},
		{"s.", "Read", "", api.ErrSealed, "s."},
		{"xs.", "Read", "", api.ErrSealed, "xs."},
		{"xf.", "Read", "", api.ErrFull, "x.."},
		{"x.f", "Read", "", api.ErrFull, "xx."},
		{"xd.", "Read", "", api.ErrDown, "x.."},
	}
}

func knownFills() []known {
	return []known{
		{".", "Fill", junk, nil, "j"},
		{"..", "Fill", junk, nil, "jj"},
		{"...", "Fill", junk, nil, "jjj"},
		{"jjj", "Fill", junk, nil, "jjj"},
		{"j..", "Fill", junk, nil, "jjj"},
		{"x", "Fill", "x", nil, "x"},
		{"x.", "Fill", "x", nil, "xx"},
		{"x..", "Fill", "x", nil, "xxx"},
		{"x.x", "Fill", "x", nil, "xxx"},
		{"xxx", "Fill", "x", nil, "xxx"},
		{"..j", "Fill", junk, nil, "jjj"},
		{"..x", "Fill", "", api.ErrState, "jjx"},
		{".x.", "Fill", "", api.ErrState, "jx."},
		{"xy.", "Fill", "", api.ErrState, "xy."},
		{"x.y", "Fill", "", api.ErrState, "xxy"},
		{"-..", "Fill", "", api.ErrDown, "-.."},
		{"-xx", "Fill", "", api.ErrDown, "-xx"},
		{".-.", "Fill", "", api.ErrDown, "j-."},
		{"x.-", "Fill", "", api.ErrDown, "xx-"},
		{"s..", "Fill", "", api.ErrSealed, "s.."},
		{"xs.", "Fill", "", api.ErrSealed, "xs."},
		{"..s", "Fill", "", api.ErrSealed, "jjs"},
		{"t..", "Fill", "", api.ErrTrimmed, "t.."},
		{".t.", "Fill", "", api.ErrTrimmed, "jt."},
		{"x.t", "Fill", "", api.ErrTrimmed, "xxt"},
		{"f..", "Fill", "", api.ErrFull, "..."},
		{"d..", "Fill", "", api.ErrDown, "..."},
		{"xf.", "Fill", "", api.ErrFull, "x.."},
		{".d.", "Fill", "", api.ErrDown, "j.."},
	}
}
