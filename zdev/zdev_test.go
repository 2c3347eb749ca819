package zdev

import (
	"math"
	"slices"
	"testing"

	"revetment/api"
	"revetment/frame"
	"revetment/zone"
)

// made is a device of so many zones, of so many sectors each, of which so many may be Open.
func made(t *testing.T, zones, size, open int) *Device {
	t.Helper()
	d, e := New(zones, size, open)
	if e != api.OK || d == nil {
		t.Fatalf("a device of %d, %d, %d: error %d", zones, size, open, e)
	}
	return d
}

// sector is a sector that a letter tells from others, in its first byte and in its last.
func sector(c byte) frame.Sector {
	return frame.Sector{0: c, 63: c}
}

// put appends sectors, one for each letter of a text.
func put(t *testing.T, d *Device, z int, letters string) {
	t.Helper()
	for _, c := range []byte(letters) {
		want := d.Len(z)
		if off, e := d.Append(z, sector(c)); off != want || e != api.OK {
			t.Fatalf("%c to the zone %d: comes to %d, error %d; want %d", c, z, off, e, want)
		}
	}
}

// text is the letters of all sectors of a zone; another sector is a question mark.
func text(d *Device, z int) string {
	s := ""
	for off, x := range d.Look(z) {
		if off != len(s) || x != sector(x[0]) {
			s += "?"
			continue
		}
		s += string(rune(x[0]))
	}
	return s
}

// hold holds a zone to its state and its sectors.
func hold(t *testing.T, d *Device, z, state int, letters string, what ...any) {
	t.Helper()
	if d.State(z) != state || d.Len(z) != len(letters) || text(d, z) != letters {
		t.Errorf("%v: the zone %d: state %d, %q (%d); want %d, %q (%d)", what, z, d.State(z), text(d, z), d.Len(z), state, letters, len(letters))
	}
}

// far are numbers that no zone and no sector here has.
func far() []int {
	return []int{-1, -2, -512, 512, 513, 1 << 16, 1 << 31, 1 << 32, 1<<32 + 1, math.MaxInt, math.MaxInt - 1, math.MinInt, math.MinInt + 1}
}

// commands are all commands at a zone, each with what it tells beside its error: whether that is its zero value.
func commands(d *Device, z int) map[string]func() (bool, api.Errno) {
	return map[string]func() (bool, api.Errno){
		"Append": func() (bool, api.Errno) { off, e := d.Append(z, sector('x')); return off == 0, e },
		"Read":   func() (bool, api.Errno) { s, e := d.Read(z, 0); return s == frame.Sector{}, e },
		"Reset":  func() (bool, api.Errno) { return true, d.Reset(z) },
		"Finish": func() (bool, api.Errno) { return true, d.Finish(z) },
	}
}

// P7.1: all numbers that may be make a device, up, of empty zones, to which nothing was commanded.
func TestNew(t *testing.T) {
	for _, x := range [][3]int{{1, 1, 1}, {512, 64, 64}, {512, 1, 1}, {1, 64, 1}, {1, 1, 64}, {24, 8, 4}, {511, 63, 63}, {2, 2, 2}} {
		d := made(t, x[0], x[1], x[2])
		if d.Zones() != x[0] || d.Size() != x[1] || d.Down() || d.Count() != 0 {
			t.Errorf("%v: %d zones of %d, down %v, %d commands", x, d.Zones(), d.Size(), d.Down(), d.Count())
		}
		for z := range x[0] {
			hold(t, d, z, zone.Empty, "", x)
		}
		if d.State(x[0]) != zone.Offline {
			t.Errorf("%v: a zone more is there, state %d", x, d.State(x[0]))
		}
	}
}

// P7.1: each number past its limits alone is refused, and such as are so together.
func TestNewWrong(t *testing.T) {
	right := [3]int{3, 4, 2}
	past := [3]int{513, 65, 65}
	for i, most := range past {
		for _, v := range []int{0, -1, most, most + 1, math.MaxInt, math.MinInt, 1 << 32, 1<<32 + 1, -1 << 63} {
			x := right
			x[i] = v
			if d, e := New(x[0], x[1], x[2]); d != nil || e != api.ErrRange {
				t.Errorf("%v: error %d", x, e)
			}
		}
	}
	for _, x := range [][3]int{{0, 0, 0}, past, {-1, 65, 0}} {
		if d, e := New(x[0], x[1], x[2]); d != nil || e != api.ErrRange {
			t.Errorf("%v: error %d", x, e)
		}
	}
}

// P7.1: in all sizes there is room for so many sectors in each zone; a zone that is full tells so.
func TestSizes(t *testing.T) {
	for size := 1; size <= 64; size++ {
		d := made(t, 2, size, 1)
		for z := range 2 {
			for off := range size {
				if at, e := d.Append(z, sector('a')); at != off || e != api.OK || d.Len(z) != off+1 {
					t.Errorf("size %d: the zone %d: %d, error %d, %d there; want %d", size, z, at, e, d.Len(z), off)
				}
			}
			if at, e := d.Append(z, sector('b')); at != 0 || e != api.ErrFull || d.State(z) != zone.Full || d.Len(z) != size {
				t.Errorf("size %d: the zone %d is full: %d, error %d, state %d, %d there", size, z, at, e, d.State(z), d.Len(z))
			}
		}
	}
}

// P7.1: the chapter's example.
func TestExample(t *testing.T) {
	d := made(t, 2, 2, 1)
	if off, e := d.Append(0, sector('a')); off != 0 || e != api.OK {
		t.Errorf("%d, error %d", off, e)
	}
	if off, e := d.Append(1, sector('b')); off != 0 || e != api.ErrOpen {
		t.Errorf("%d, error %d", off, e)
	}
	hold(t, d, 0, zone.Open, "a")
	hold(t, d, 1, zone.Empty, "")
}

// P7.1: for each bound, as many zones are opened, no more; those that are Open go on.
func TestOpen(t *testing.T) {
	for open := 1; open <= 64; open++ {
		d := made(t, 66, 3, open)
		for z := range 66 {
			want := api.OK
			if z >= open {
				want = api.ErrOpen
			}
			if off, e := d.Append(z, sector('a')); off != 0 || e != want {
				t.Errorf("%d may be open: the zone %d: %d, error %d; want %d", open, z, off, e, want)
			}
		}
		for z := range open {
			put(t, d, z, "b")
			hold(t, d, z, zone.Open, "ab")
		}
		for z := open; z < 66; z++ {
			hold(t, d, z, zone.Empty, "")
		}
	}
}

// P7.1: a zone that is Open no more makes room for another one: full, finished, reset, or failed.
func TestOpenAgain(t *testing.T) {
	for name, leave := range map[string]func(d *Device){
		"filled":   func(d *Device) { d.Append(1, sector('b')) },
		"finished": func(d *Device) { d.Finish(1) },
		"reset":    func(d *Device) { d.Reset(1) },
		"readonly": func(d *Device) { d.Fail(1, zone.ReadOnly) },
		"offline":  func(d *Device) { d.Fail(1, zone.Offline) },
		"lost":     func(d *Device) { d.Crash(); d.Revive([]int{1}) },
	} {
		d := made(t, 4, 2, 2)
		put(t, d, 0, "a")
		put(t, d, 1, "a")
		if _, e := d.Append(3, sector('x')); e != api.ErrOpen {
			t.Errorf("%s: before it: error %d", name, e)
		}
		leave(d)
		put(t, d, 3, "x")
		if _, e := d.Append(2, sector('y')); e != api.ErrOpen {
			t.Errorf("%s: behind it: error %d", name, e)
		}
		hold(t, d, 2, zone.Empty, "", name)
		hold(t, d, 3, zone.Open, "x", name)
	}
}

// P7.1: the bound is for Empty zones alone: others tell their own answer, and an Empty one is reset and finished all the same.
func TestOpenOthers(t *testing.T) {
	d := made(t, 6, 2, 1)
	d.Finish(1)
	d.Fail(2, zone.ReadOnly)
	d.Fail(3, zone.Offline)
	put(t, d, 5, "pq")
	put(t, d, 0, "a")
	for z, want := range []api.Errno{1: api.ErrFull, 2: api.ErrZone, 3: api.ErrOffline, 4: api.ErrOpen, 5: api.ErrFull} {
		if z == 0 {
			continue
		}
		if off, e := d.Append(z, sector('x')); off != 0 || e != want {
			t.Errorf("the zone %d: %d, error %d; want %d", z, off, e, want)
		}
	}
	if e := d.Reset(4); e != api.OK {
		t.Errorf("an Empty one is reset: error %d", e)
	}
	if e := d.Finish(4); e != api.OK || d.State(4) != zone.Full {
		t.Errorf("an Empty one is finished: error %d, state %d", e, d.State(4))
	}
	put(t, d, 0, "b")
	hold(t, d, 0, zone.Full, "ab")
}

// P7.1: zones of one sector are never Open: any number of them is filled.
func TestOpenOfOne(t *testing.T) {
	d := made(t, 20, 1, 1)
	for z := range 20 {
		put(t, d, z, "a")
		hold(t, d, z, zone.Full, "a")
	}
}

// P7.1: behind a crash more may be Open than are opened: all of them go on, and no other is opened till fewer are Open.
func TestOpenBehindCrash(t *testing.T) {
	d := made(t, 5, 2, 1)
	for z := range 3 {
		put(t, d, z, "ab")
	}
	d.Crash()
	d.Revive([]int{1, 1, 1})
	for z := range 3 {
		hold(t, d, z, zone.Open, "a")
	}
	for z := range 3 {
		if off, e := d.Append(4, sector('x')); off != 0 || e != api.ErrOpen {
			t.Errorf("%d are Open: %d, error %d", 3-z, off, e)
		}
		put(t, d, z, "c")
		hold(t, d, z, zone.Full, "ac")
	}
	put(t, d, 4, "x")
	hold(t, d, 4, zone.Open, "x")
}

// P7.1: Read, Reset and Finish tell the zone's answer, in all states.
func TestAnswers(t *testing.T) {
	for state, want := range map[int]api.Errno{zone.Open: api.OK, zone.ReadOnly: api.ErrZone, zone.Offline: api.ErrOffline} {
		for name, x := range map[string]struct {
			command func(*Device) api.Errno
			state   int
			letters string
		}{
			"Reset":  {func(d *Device) api.Errno { return d.Reset(1) }, zone.Empty, ""},
			"Finish": {func(d *Device) api.Errno { return d.Finish(1) }, zone.Full, "ab"},
		} {
			d := made(t, 3, 3, 3)
			put(t, d, 0, "p")
			put(t, d, 1, "ab")
			put(t, d, 2, "q")
			d.Fail(1, state)
			if e := x.command(d); e != want {
				t.Errorf("state %d: %s tells %d, want %d", state, name, e, want)
			}
			if want == api.OK {
				hold(t, d, 1, x.state, x.letters, name)
			} else {
				hold(t, d, 1, state, "ab", name)
			}
			hold(t, d, 0, zone.Open, "p", name)
			hold(t, d, 2, zone.Open, "q", name)
		}
	}
}

// P7.1: what is read is what was appended there; where there is nothing, or the zone is Offline, it is told so.
func TestRead(t *testing.T) {
	d := made(t, 2, 3, 2)
	put(t, d, 0, "ab")
	put(t, d, 1, "c")
	d.Fail(0, zone.ReadOnly)
	for off, c := range []byte("ab") {
		if s, e := d.Read(0, off); s != sector(c) || e != api.OK {
			t.Errorf("%d: %v, error %d", off, s, e)
		}
	}
	for _, off := range append(far(), 2, 3) {
		if s, e := d.Read(0, off); s != (frame.Sector{}) || e != api.ErrRead {
			t.Errorf("%d: %v, error %d", off, s, e)
		}
	}
	d.Fail(0, zone.Offline)
	for _, off := range append(far(), 0, 1, 2) {
		if s, e := d.Read(0, off); s != (frame.Sector{}) || e != api.ErrOffline {
			t.Errorf("%d of an Offline one: %v, error %d", off, s, e)
		}
	}
	if s, e := d.Read(1, 0); s != sector('c') || e != api.OK {
		t.Errorf("%v, error %d", s, e)
	}
}

// P7.1: a Flush makes all of all zones safe, of those that failed too.
func TestFlush(t *testing.T) {
	d := made(t, 5, 3, 5)
	for z := range 5 {
		put(t, d, z, "abc"[:z%3+1])
	}
	d.Finish(0)
	d.Fail(3, zone.ReadOnly)
	d.Fail(4, zone.Offline)
	if e := d.Flush(); e != api.OK {
		t.Errorf("error %d", e)
	}
	put(t, d, 1, "x")
	d.Crash()
	d.Revive(nil)
	for z, state := range []int{zone.Full, zone.Open, zone.Full, zone.ReadOnly, zone.Offline} {
		hold(t, d, z, state, "abc"[:z%3+1])
	}
}

// P7.1, P7.2: each command that the device takes is counted, whatever the zone tells of it; what is no command isn't.
func TestCount(t *testing.T) {
	d := made(t, 4, 1, 1)
	n := 0
	counted := func(what string, e, want api.Errno) {
		t.Helper()
		if n++; e != want || d.Count() != n {
			t.Errorf("%s: error %d, %d counted; want %d, %d", what, e, d.Count(), want, n)
		}
	}
	_, e := d.Append(0, sector('a'))
	counted("Append", e, api.OK)
	_, e = d.Append(0, sector('a'))
	counted("Append to a full one", e, api.ErrFull)
	_, e = d.Read(0, 0)
	counted("Read", e, api.OK)
	_, e = d.Read(0, -1)
	counted("Read of nothing", e, api.ErrRead)
	counted("Finish", d.Finish(1), api.OK)
	counted("Reset", d.Reset(1), api.OK)
	counted("Flush", d.Flush(), api.OK)
	d.Fail(2, zone.ReadOnly)
	d.Fail(3, zone.Offline)
	counted("Reset of a ReadOnly one", d.Reset(2), api.ErrZone)
	counted("Finish of an Offline one", d.Finish(3), api.ErrOffline)
	_, e = d.Append(3, sector('a'))
	counted("Append to an Offline one", e, api.ErrOffline)
	_, e = d.Read(3, 0)
	counted("Read of an Offline one", e, api.ErrOffline)
	d.Spoil(0, 0, sector('p'))
	d.Down()
	d.Zones()
	d.Size()
	d.State(0)
	d.Len(0)
	for range d.Look(0) {
	}
	d.Crash()
	d.Revive([]int{1})
	if d.Count() != n {
		t.Errorf("%d counted of what is no command", d.Count()-n)
	}
	counted("Flush behind it", d.Flush(), api.OK)
}

// P7.1: an Append that isn't let open a zone was given all the same.
func TestCountOpen(t *testing.T) {
	d := made(t, 2, 2, 1)
	put(t, d, 0, "a")
	if _, e := d.Append(1, sector('b')); e != api.ErrOpen || d.Count() != 2 {
		t.Errorf("error %d, %d counted", e, d.Count())
	}
}

// P7.1, P7.3: at a zone that isn't there all is ErrRange, nothing is counted, and nothing changes.
func TestNoZone(t *testing.T) {
	d := made(t, 3, 2, 1)
	put(t, d, 0, "ab")
	put(t, d, 2, "c")
	for _, z := range append(far(), 3, 4, 5, 6) {
		for name, f := range commands(d, z) {
			if none, e := f(); !none || e != api.ErrRange {
				t.Errorf("the zone %d: %s tells %d, nothing beside it %v", z, name, e, none)
			}
		}
		if e := d.Fail(z, zone.Offline); e != api.ErrRange {
			t.Errorf("the zone %d: Fail tells %d", z, e)
		}
		if e := d.Spoil(z, 0, sector('p')); e != api.ErrRange {
			t.Errorf("the zone %d: Spoil tells %d", z, e)
		}
		hold(t, d, z, zone.Offline, "", "there is none")
	}
	if d.Count() != 3 || d.Down() {
		t.Errorf("%d counted, down %v", d.Count(), d.Down())
	}
	hold(t, d, 0, zone.Full, "ab")
	hold(t, d, 1, zone.Empty, "")
	hold(t, d, 2, zone.Open, "c")
}

// P7.2: down, all commands tell ErrDown ahead of all else, also at zones that aren't there or failed; nothing is counted, and nothing changes.
func TestDown(t *testing.T) {
	d := made(t, 4, 2, 1)
	put(t, d, 0, "a")
	d.Fail(2, zone.ReadOnly)
	d.Fail(3, zone.Offline)
	for range 2 {
		d.Crash()
		if !d.Down() {
			t.Error("it is up")
		}
		for _, z := range append(far(), 0, 1, 2, 3, 4) {
			for name, f := range commands(d, z) {
				if none, e := f(); !none || e != api.ErrDown {
					t.Errorf("the zone %d: %s tells %d, nothing beside it %v", z, name, e, none)
				}
			}
		}
		if e := d.Flush(); e != api.ErrDown {
			t.Errorf("Flush tells %d", e)
		}
		if d.Count() != 1 || d.Zones() != 4 || d.Size() != 2 {
			t.Errorf("%d counted, %d zones of %d", d.Count(), d.Zones(), d.Size())
		}
		hold(t, d, 0, zone.Open, "a")
		hold(t, d, 1, zone.Empty, "")
		hold(t, d, 2, zone.ReadOnly, "")
		hold(t, d, 3, zone.Offline, "")
	}
	d.Revive(nil)
	hold(t, d, 0, zone.Empty, "", "the Flush wasn't taken")
}

// P7.2: each zone keeps as many as keep has at its number, of those that weren't safe; none, if it has none there.
func TestRevive(t *testing.T) {
	for _, x := range []struct {
		keep []int
		want string // how many each zone has then
	}{
		{nil, "11111"},
		{[]int{}, "11111"},
		{[]int{0, 1, 2, 3, 4}, "12344"},
		{[]int{math.MaxInt, 0, -1, math.MinInt, 1}, "41112"},
		{[]int{2}, "31111"},
		{[]int{0, 0, 0, 1}, "11121"},
		{[]int{1, 1, 1, 1, 1, 9, 9, 9, 9}, "22222"},
		{[]int{3, 3, 3, 3, 3}, "44444"},
	} {
		d := made(t, 5, 4, 5)
		for z := range 5 {
			put(t, d, z, "a")
		}
		d.Flush()
		for z := range 5 {
			put(t, d, z, "bcd")
		}
		d.Fail(2, zone.ReadOnly)
		given := slices.Clone(x.keep)
		d.Crash()
		for z := range 5 {
			if text(d, z) != "abcd" {
				t.Errorf("%v: a Crash alone: the zone %d has %q", x.keep, z, text(d, z))
			}
		}
		d.Revive(x.keep)
		if d.Down() || d.Count() != 21 || !slices.Equal(x.keep, given) {
			t.Errorf("%v: down %v, %d counted, given %v", x.keep, d.Down(), d.Count(), given)
		}
		for z := range 5 {
			n := int(x.want[z] - '0')
			state := []int{zone.Open, zone.Full}[n/4]
			if z == 2 {
				state = zone.ReadOnly
			}
			hold(t, d, z, state, "abcd"[:n], x.keep)
		}
		holdSafe(t, d)
	}
}

// holdSafe holds all zones to have nothing that another crash would lose.
func holdSafe(t *testing.T, d *Device) {
	t.Helper()
	var before []string
	for z := range d.Zones() {
		before = append(before, text(d, z))
	}
	d.Crash()
	d.Revive(nil)
	for z, s := range before {
		if text(d, z) != s {
			t.Errorf("the zone %d: %q of %q stays", z, text(d, z), s)
		}
	}
}

// P7.2: what is up isn't revived: nothing is lost, nothing becomes safe.
func TestReviveUp(t *testing.T) {
	d := made(t, 2, 3, 2)
	put(t, d, 0, "ab")
	d.Flush()
	put(t, d, 0, "c")
	put(t, d, 1, "d")
	d.Revive([]int{0, 0})
	d.Revive(nil)
	hold(t, d, 0, zone.Full, "abc")
	hold(t, d, 1, zone.Open, "d")
	d.Revive([]int{9, 9})
	d.Crash()
	d.Revive(nil)
	hold(t, d, 0, zone.Open, "ab")
	hold(t, d, 1, zone.Empty, "")
	d.Revive(nil)
	if d.Down() {
		t.Error("it is down")
	}
}

// P7.2: crashes don't heap up: two behind each other are one, and it is up with the first Revive.
func TestCrashTwice(t *testing.T) {
	d := made(t, 1, 3, 1)
	put(t, d, 0, "ab")
	d.Crash()
	d.Crash()
	d.Revive([]int{1})
	if d.Down() {
		t.Error("it is down")
	}
	hold(t, d, 0, zone.Open, "a")
	put(t, d, 0, "xy")
	hold(t, d, 0, zone.Full, "axy")
}

// P7.2: a finished zone stays full through a crash, whatever it loses.
func TestReviveFinished(t *testing.T) {
	d := made(t, 2, 3, 2)
	put(t, d, 0, "ab")
	d.Finish(0)
	d.Finish(1)
	d.Crash()
	d.Revive([]int{1, 1})
	hold(t, d, 0, zone.Full, "a")
	hold(t, d, 1, zone.Full, "")
	if _, e := d.Append(0, sector('x')); e != api.ErrFull {
		t.Errorf("error %d", e)
	}
}

// P7.3: a zone fails, and no other; of other states nothing comes, and that is OK; down or up.
func TestFail(t *testing.T) {
	for _, down := range []bool{false, true} {
		d := made(t, 3, 2, 3)
		for z := range 3 {
			put(t, d, z, "a")
		}
		if down {
			d.Crash()
		}
		holdFail := func(state, want int) {
			t.Helper()
			if e := d.Fail(1, state); e != api.OK || d.Count() != 3 || d.Down() != down {
				t.Errorf("the state %d: error %d, %d counted, down %v", state, e, d.Count(), d.Down())
			}
			hold(t, d, 0, zone.Open, "a", state)
			hold(t, d, 1, want, "a", state)
			hold(t, d, 2, zone.Open, "a", state)
		}
		none := append(far(), zone.Empty, zone.Open, zone.Full, 5)
		for _, state := range none {
			holdFail(state, zone.Open)
		}
		holdFail(zone.ReadOnly, zone.ReadOnly)
		for _, state := range none {
			holdFail(state, zone.ReadOnly)
		}
		holdFail(zone.Offline, zone.Offline)
		for _, state := range append(none, zone.ReadOnly) {
			holdFail(state, zone.Offline)
		}
	}
}

// P7.3: a pattern is put into one sector, by exclusive or, in whichever state, down or up; twice it is as if it never was.
func TestSpoil(t *testing.T) {
	p := frame.Sector{0: 0xff, 1: 1, 31: 0x80, 63: 0x0f}
	for _, state := range []int{zone.Open, zone.ReadOnly, zone.Offline} {
		for _, down := range []bool{false, true} {
			d := made(t, 2, 4, 2)
			put(t, d, 0, "abc")
			put(t, d, 1, "abc")
			d.Fail(0, state)
			if down {
				d.Crash()
			}
			if e := d.Spoil(0, 1, p); e != api.OK || d.Count() != 6 || d.State(0) != state {
				t.Errorf("state %d, down %v: error %d, %d counted, state %d", state, down, e, d.Count(), d.State(0))
			}
			var got []frame.Sector
			for _, s := range d.Look(0) {
				got = append(got, s)
			}
			spoilt := frame.Sector{0: 'b' ^ 0xff, 1: 1, 31: 0x80, 63: 'b' ^ 0x0f}
			if !slices.Equal(got, []frame.Sector{sector('a'), spoilt, sector('c')}) {
				t.Errorf("state %d, down %v: %v", state, down, got)
			}
			hold(t, d, 1, zone.Open, "abc")
			d.Spoil(0, 1, p)
			hold(t, d, 0, state, "abc")
			if p != (frame.Sector{0: 0xff, 1: 1, 31: 0x80, 63: 0x0f}) {
				t.Error("the pattern is another one")
			}
		}
	}
}

// P7.3: what was spoilt is read so, goes through a crash so, and isn't left to what comes to its place later.
func TestSpoilStays(t *testing.T) {
	d := made(t, 1, 2, 1)
	put(t, d, 0, "ab")
	d.Spoil(0, 0, sector(0x20))
	d.Spoil(0, 1, frame.Sector{})
	if s, e := d.Read(0, 0); s != sector('A') || e != api.OK {
		t.Errorf("%v, error %d", s, e)
	}
	d.Crash()
	d.Revive([]int{1})
	hold(t, d, 0, zone.Open, "A")
	d.Reset(0)
	put(t, d, 0, "a")
	hold(t, d, 0, zone.Open, "a")
}

// P7.3: where there is no sector, ErrRead is told, in whichever state; a zone that isn't there comes first.
func TestSpoilNothing(t *testing.T) {
	for _, state := range []int{zone.Open, zone.ReadOnly, zone.Offline} {
		d := made(t, 2, 3, 2)
		put(t, d, 0, "ab")
		d.Fail(0, state)
		d.Fail(1, state)
		for _, off := range append(far(), 2, 3, 64) {
			if e := d.Spoil(0, off, sector('p')); e != api.ErrRead {
				t.Errorf("state %d: %d: error %d", state, off, e)
			}
			if e := d.Spoil(2, off, sector('p')); e != api.ErrRange {
				t.Errorf("%d of a zone that isn't there: error %d", off, e)
			}
		}
		if e := d.Spoil(1, 0, sector('p')); e != api.ErrRead {
			t.Errorf("state %d: an empty one: error %d", state, e)
		}
		hold(t, d, 0, state, "ab")
	}
}

// P7.3: sectors come with their places, as far as they are asked, again from the beginning, in whichever state, down or up.
func TestLook(t *testing.T) {
	for _, state := range []int{zone.Open, zone.ReadOnly, zone.Offline} {
		for _, down := range []bool{false, true} {
			d := made(t, 2, 4, 2)
			put(t, d, 0, "x")
			put(t, d, 1, "abc")
			d.Fail(1, state)
			if down {
				d.Crash()
			}
			look := d.Look(1)
			for many := 1; many <= 4; many++ {
				holdAsked(t, look, many)
			}
			if d.Count() != 4 {
				t.Errorf("%d counted", d.Count())
			}
		}
	}
}

// holdAsked holds what comes of the sectors a, b, c, if so many are asked.
func holdAsked(t *testing.T, look func(func(int, frame.Sector) bool), many int) {
	t.Helper()
	n := 0
	look(func(off int, s frame.Sector) bool {
		if off != n || n >= min(many, 3) || s != sector("abc"[n]) {
			t.Errorf("%d asked: %v comes at %d", many, s, off)
		}
		n++
		s[0] = 'z'
		return n < many
	})
	if n != min(many, 3) {
		t.Errorf("%d asked: %d came", many, n)
	}
}

// P7.3: nothing comes of a zone that is empty, or isn't there, however it is asked.
func TestLookAtNothing(t *testing.T) {
	d := made(t, 2, 2, 2)
	put(t, d, 0, "ab")
	for _, z := range append(far(), 1, 2, 3) {
		for range d.Look(z) {
			t.Errorf("the zone %d has something", z)
		}
	}
}

// P7.1, P7.3: all bytes of a sector are kept, and all bytes of a pattern put into it.
func TestAllBytes(t *testing.T) {
	var s, p, want frame.Sector
	for i := range s {
		s[i], p[i] = byte(3*i+1), byte(255-5*i)
		want[i] = s[i] ^ p[i]
	}
	d := made(t, 1, 2, 1)
	d.Append(0, s)
	if x, e := d.Read(0, 0); x != s || e != api.OK {
		t.Errorf("%v, error %d", x, e)
	}
	d.Spoil(0, 0, p)
	if x, e := d.Read(0, 0); x != want || e != api.OK {
		t.Errorf("%v, error %d", x, e)
	}
}

// P7.1 to P7.3: two devices have nothing in common, and what is handed in or told is of its own.
func TestApart(t *testing.T) {
	d, o := made(t, 2, 2, 1), made(t, 2, 2, 1)
	s := sector('a')
	d.Append(0, s)
	s[0] = 'z'
	x, _ := d.Read(0, 0)
	x[0] = 'z'
	hold(t, d, 0, zone.Open, "a")
	d.Fail(1, zone.Offline)
	d.Crash()
	if o.Down() || o.Count() != 0 {
		t.Errorf("down %v, %d counted", o.Down(), o.Count())
	}
	put(t, o, 1, "b")
	hold(t, o, 0, zone.Empty, "")
	hold(t, d, 1, zone.Offline, "")
}
