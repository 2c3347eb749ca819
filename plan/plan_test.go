package plan

import (
	"math"
	"slices"
	"testing"

	"revetment/api"
	"revetment/frame"
	"revetment/zone"
)

// made is a drive of so many zones, of so many sectors each, of which so many may be Open.
func made(t *testing.T, zones, size, open int) *Drive {
	t.Helper()
	d, e := New(zones, size, open)
	if e != api.OK || d == nil {
		t.Fatalf("a drive of %d, %d, %d: error %d", zones, size, open, e)
	}
	return d
}

// sector is a sector that a number tells from others, in its first byte and in its last.
func sector(c byte) frame.Sector {
	return frame.Sector{0: c, 63: c}
}

// come lets events come, which are right.
func come(t *testing.T, d *Drive, es ...Event) {
	t.Helper()
	for _, e := range es {
		if n := d.Plan(e); n != api.OK {
			t.Fatalf("%v: error %d", e, n)
		}
	}
}

// put appends sectors to a zone, one for each number.
func put(t *testing.T, d *Drive, z int, cs ...byte) {
	t.Helper()
	for _, c := range cs {
		want := d.Device().Len(z)
		if off, e := d.Append(z, sector(c)); off != want || e != api.OK {
			t.Fatalf("%d to the zone %d: comes to %d, error %d; want %d", c, z, off, e, want)
		}
	}
}

// there holds a drive to what is to come, and to what happened.
func there(t *testing.T, d *Drive, coming, happened []Event, what ...any) {
	t.Helper()
	if c := slices.Collect(d.Coming()); !slices.Equal(c, coming) {
		t.Errorf("%v: to come are %v, want %v", what, c, coming)
	}
	if h := slices.Collect(d.Happened()); !slices.Equal(h, happened) {
		t.Errorf("%v: there happened %v, want %v", what, h, happened)
	}
}

// spoilt holds a sector to what was spoilt of it, and how many times.
func spoilt(t *testing.T, d *Drive, z, off int, pattern frame.Sector, times int, what ...any) {
	t.Helper()
	if p, n := d.Spoilt(z, off); p != pattern || n != times {
		t.Errorf("%v: zone %d, sector %d: spoilt %v, %d times; want %v, %d", what, z, off, p, n, pattern, times)
	}
}

// far are numbers that no zone and no sector here has.
func far() []int {
	return []int{-1, -2, -512, 512, 513, 1 << 16, 1 << 31, 1 << 32, 1<<32 + 1, math.MaxInt, math.MaxInt - 1, math.MinInt, math.MinInt + 1}
}

// commands are all commands, each with what it tells beside its error: whether that is its zero value. Flush has no zone.
func commands(d *Drive, z int) map[string]func() (bool, api.Errno) {
	return map[string]func() (bool, api.Errno){
		"Append": func() (bool, api.Errno) { off, e := d.Append(z, sector('x')); return off == 0, e },
		"Read":   func() (bool, api.Errno) { s, e := d.Read(z, 0); return s == frame.Sector{}, e },
		"Reset":  func() (bool, api.Errno) { return true, d.Reset(z) },
		"Finish": func() (bool, api.Errno) { return true, d.Finish(z) },
		"Flush":  func() (bool, api.Errno) { return true, d.Flush() },
	}
}

// P8: the kinds have the chapter's numbers.
func TestKinds(t *testing.T) {
	if Spoil != 1 || ReadOnly != 2 || Offline != 3 || Crash != 4 {
		t.Error(Spoil, ReadOnly, Offline, Crash)
	}
}

// P8.1: an event is right by its At and its Kind alone.
func TestRight(t *testing.T) {
	for _, at := range []int{0, 1, 2, 1 << 40, math.MaxInt} {
		for kind := Spoil; kind <= Crash; kind++ {
			for _, v := range far() {
				if e := (Event{at, kind, v, v, sector(7)}); !e.Right() {
					t.Errorf("%v isn't right", e)
				}
			}
			if e := (Event{At: at, Kind: kind}); !e.Right() {
				t.Errorf("%v isn't right", e)
			}
		}
		for _, kind := range append(far(), 0, 5, 6) {
			if e := (Event{At: at, Kind: kind}); e.Right() {
				t.Errorf("%v is right", e)
			}
		}
	}
	for _, at := range []int{-1, -2, -1 << 32, math.MinInt} {
		for kind := range 6 {
			if e := (Event{At: at, Kind: kind}); e.Right() {
				t.Errorf("%v is right", e)
			}
		}
	}
}

// P8.1: a new drive has a new device of these numbers, and no events.
func TestNew(t *testing.T) {
	for _, x := range [][3]int{{1, 1, 1}, {512, 64, 64}, {24, 8, 4}, {2, 3, 1}} {
		d := made(t, x[0], x[1], x[2])
		dev := d.Device()
		if dev == nil || dev.Zones() != x[0] || dev.Size() != x[1] || dev.Down() || dev.Count() != 0 {
			t.Fatalf("%v: not such a device", x)
		}
		for z := range x[0] {
			if dev.State(z) != zone.Empty || dev.Len(z) != 0 {
				t.Errorf("%v: the zone %d: state %d, %d there", x, z, dev.State(z), dev.Len(z))
			}
			spoilt(t, d, z, 0, frame.Sector{}, 0, x)
		}
		there(t, d, nil, nil, x)
	}
	d := made(t, 3, 2, 2)
	put(t, d, 0, 'a')
	put(t, d, 1, 'b')
	if off, e := d.Append(2, sector('c')); off != 0 || e != api.ErrOpen {
		t.Errorf("a third one is opened: %d, error %d", off, e)
	}
}

// P8.1: layer 7's error, and no drive, where there can be no such device.
func TestNewWrong(t *testing.T) {
	for _, x := range [][3]int{{0, 4, 2}, {513, 4, 2}, {3, 0, 2}, {3, 65, 2}, {3, 4, 0}, {3, 4, 65}, {0, 0, 0}, {-1, -1, -1}, {math.MaxInt, math.MaxInt, math.MaxInt}, {math.MinInt, 1, 1}} {
		if d, e := New(x[0], x[1], x[2]); d != nil || e != api.ErrRange {
			t.Errorf("%v: error %d", x, e)
		}
	}
}

// P8.1: without events all commands tell what the device tells.
func TestPlain(t *testing.T) {
	d := made(t, 3, 2, 1)
	put(t, d, 0, 'a')
	if s, e := d.Read(0, 0); s != sector('a') || e != api.OK {
		t.Errorf("read: %v, error %d", s, e)
	}
	if s, e := d.Read(0, 1); s != (frame.Sector{}) || e != api.ErrRead {
		t.Errorf("read past the end: %v, error %d", s, e)
	}
	if off, e := d.Append(1, sector('b')); off != 0 || e != api.ErrOpen {
		t.Errorf("too many are open: %d, error %d", off, e)
	}
	put(t, d, 0, 'b')
	if off, e := d.Append(0, sector('c')); off != 0 || e != api.ErrFull {
		t.Errorf("full: %d, error %d", off, e)
	}
	if e := d.Flush(); e != api.OK {
		t.Errorf("flush: error %d", e)
	}
	if e := d.Reset(0); e != api.OK || d.Device().State(0) != zone.Empty {
		t.Errorf("reset: error %d", e)
	}
	if e := d.Finish(1); e != api.OK || d.Device().State(1) != zone.Full {
		t.Errorf("finish: error %d", e)
	}
	if n := d.Device().Count(); n != 9 {
		t.Errorf("%d commands, want 9", n)
	}
	there(t, d, nil, nil)
}

// P8.1: what isn't right is ErrForm, also when there is no room, and changes nothing.
func TestPlanWrong(t *testing.T) {
	d := made(t, 1, 1, 1)
	last := Event{At: 9, Kind: Crash}
	wrong := []Event{{At: -1, Kind: Crash}, {Kind: 0}, {Kind: 5}, {At: math.MinInt, Kind: Spoil}, {At: 3, Kind: -1}, {}}
	var all []Event
	for i := range api.MaxFaults + 1 {
		for _, e := range wrong {
			if n := d.Plan(e); n != api.ErrForm {
				t.Errorf("%v behind %d others: error %d", e, i, n)
			}
		}
		if i == api.MaxFaults {
			break
		}
		come(t, d, last)
		all = append(all, last)
	}
	for range 3 {
		if n := d.Plan(last); n != api.ErrFull {
			t.Errorf("one too many: error %d", n)
		}
	}
	there(t, d, all, nil)
}

// P8.1: what happened takes no room of what is to come.
func TestPlanAgain(t *testing.T) {
	d := made(t, 1, 1, 1)
	soon, late := Event{Kind: Spoil}, Event{At: 1000, Kind: Crash}
	var happened, coming []Event
	for i := range api.MaxFaults {
		if i%2 == 0 {
			come(t, d, soon)
			happened = append(happened, soon)
		} else {
			come(t, d, late)
			coming = append(coming, late)
		}
	}
	if n := d.Plan(soon); n != api.ErrFull {
		t.Errorf("one too many: error %d", n)
	}
	d.Flush()
	there(t, d, coming, happened)
	for range happened {
		come(t, d, late)
		coming = append(coming, late)
	}
	if n := d.Plan(soon); n != api.ErrFull {
		t.Errorf("one too many behind it: error %d", n)
	}
	there(t, d, coming, happened)
}

// P8.2: what is to come comes by its At, of the same At as it was given.
func TestOrder(t *testing.T) {
	d := made(t, 1, 1, 1)
	ats := []int{5, 3, 3, 9, 0, 5, 3, math.MaxInt, 0, 9, 1}
	var want []Event
	for i, at := range ats {
		e := Event{At: at, Kind: Spoil, Zone: i}
		come(t, d, e)
		want = append(want, e)
		slices.SortStableFunc(want, func(a, b Event) int {
			if a.At < b.At {
				return -1
			}
			if a.At > b.At {
				return 1
			}
			return 0
		})
		there(t, d, want, nil, i)
	}
	for n := range 12 {
		at := slices.IndexFunc(want, func(e Event) bool { return e.At >= n })
		there(t, d, want[at:], want[:at], n, "commands")
		d.Flush()
	}
	there(t, d, want[10:], want[:10])
}

// P8.1: an event that was given late happens ahead of the next command, in its place among those to come.
func TestLate(t *testing.T) {
	d := made(t, 1, 1, 1)
	for range 5 {
		d.Flush()
	}
	a, b, c := Event{At: 5, Kind: Spoil, Zone: 1}, Event{At: 2, Kind: Spoil, Zone: 2}, Event{At: 6, Kind: Spoil, Zone: 3}
	come(t, d, c, a, b)
	there(t, d, []Event{b, a, c}, nil)
	d.Flush()
	there(t, d, []Event{c}, []Event{b, a})
	e := Event{At: 0, Kind: Spoil, Zone: 4}
	come(t, d, e)
	there(t, d, []Event{e, c}, []Event{b, a})
	d.Flush()
	there(t, d, nil, []Event{b, a, e, c})
}

// P8.1: the chapter's example.
func TestExample(t *testing.T) {
	d := made(t, 2, 2, 1)
	e := Event{At: 1, Kind: Crash}
	come(t, d, e)
	put(t, d, 0, 'a')
	if off, n := d.Append(0, sector('b')); off != 0 || n != api.ErrDown {
		t.Errorf("%d, error %d", off, n)
	}
	there(t, d, nil, []Event{e})
	if !d.Device().Down() || d.Device().Count() != 1 {
		t.Errorf("down %v, %d commands", d.Device().Down(), d.Device().Count())
	}
}

// P8.1: ahead of each command that is counted what is due happens; the command finds what came of it.
func TestEachCommand(t *testing.T) {
	for name := range commands(nil, 0) {
		d := made(t, 2, 2, 2)
		put(t, d, 1, 'a')
		crash, fail := Event{At: 2, Kind: Crash}, Event{At: 1, Kind: Offline, Zone: 1}
		come(t, d, crash, fail)
		want := api.ErrOffline
		if name == "Flush" {
			want = api.OK
		}
		if empty, e := commands(d, 1)[name](); !empty || e != want {
			t.Errorf("%s: error %d, want %d", name, e, want)
		}
		there(t, d, []Event{crash}, []Event{fail}, name)
		if empty, e := commands(d, 1)[name](); !empty || e != api.ErrDown {
			t.Errorf("%s: error %d behind the crash", name, e)
		}
		there(t, d, nil, []Event{fail, crash}, name)
		if n := d.Device().Count(); n != 2 {
			t.Errorf("%s: %d commands, want 2", name, n)
		}
	}
}

// P8.1: ahead of what isn't counted nothing happens: a zone that isn't there, or a device that is down.
func TestNotCounted(t *testing.T) {
	due := []Event{{Kind: Spoil}, {Kind: ReadOnly}, {Kind: Offline, Zone: 1}, {Kind: Crash}}
	d := made(t, 2, 2, 2)
	put(t, d, 0, 'a')
	come(t, d, due...)
	for name := range commands(d, 0) {
		for _, z := range append(far(), 2) {
			if name == "Flush" {
				continue
			}
			if empty, e := commands(d, z)[name](); !empty || e != api.ErrRange {
				t.Errorf("%s at %d: error %d", name, z, e)
			}
			there(t, d, due, nil, name, z)
		}
	}
	d.Device().Crash()
	for name := range commands(d, 0) {
		for _, z := range append(far(), 0, 1, 2) {
			if empty, e := commands(d, z)[name](); !empty || e != api.ErrDown {
				t.Errorf("%s at %d, down: error %d", name, z, e)
			}
			there(t, d, due, nil, name, z, "down")
		}
	}
	if d.Device().Count() != 1 || d.Device().State(1) != zone.Empty {
		t.Errorf("%d commands, state %d", d.Device().Count(), d.Device().State(1))
	}
	spoilt(t, d, 0, 0, frame.Sector{}, 0)
	d.Revive([]int{1})
	d.Flush()
	there(t, d, nil, due)
}

// P8.1: a command that the device refuses, but counts, is one like others.
func TestRefused(t *testing.T) {
	d := made(t, 3, 1, 1)
	put(t, d, 0, 'a')
	e := Event{At: 4, Kind: Crash}
	come(t, d, e)
	d.Append(0, sector('b'))
	d.Read(1, 5)
	d.Read(0, -1)
	there(t, d, []Event{e}, nil)
	if _, n := d.Read(0, 0); n != api.ErrDown {
		t.Errorf("error %d", n)
	}
	there(t, d, nil, []Event{e})
}

// P8.1: as soon as the device is down, the others wait, of the same At too; once it is up again, they happen.
func TestWait(t *testing.T) {
	d := made(t, 2, 4, 2)
	put(t, d, 0, 'a', 'b')
	es := []Event{
		{At: 2, Kind: Spoil, Pattern: sector(1)},
		{At: 2, Kind: Crash},
		{At: 2, Kind: Spoil, Off: 1, Pattern: sector(2)},
		{At: 2, Kind: Spoil, Pattern: sector(4)},
		{At: 2, Kind: Crash},
		{At: 2, Kind: ReadOnly, Zone: 1},
	}
	come(t, d, es...)
	if e := d.Flush(); e != api.ErrDown {
		t.Errorf("error %d", e)
	}
	there(t, d, es[2:], es[:2])
	d.Flush()
	there(t, d, es[2:], es[:2], "again")
	spoilt(t, d, 0, 0, sector(1), 1)
	d.Revive([]int{1})
	there(t, d, es[2:], es[:2], "revived")
	spoilt(t, d, 0, 0, sector(1), 1, "revived")
	if _, e := d.Read(0, 0); e != api.ErrDown {
		t.Errorf("error %d", e)
	}
	there(t, d, es[5:], es[:5])
	spoilt(t, d, 0, 0, sector(1^4), 2)
	spoilt(t, d, 0, 1, frame.Sector{}, 0, "a sector that was lost")
	d.Revive([]int{1})
	if s, e := d.Read(0, 0); s != sector('a'^1^4) || e != api.OK || d.Device().State(1) != zone.ReadOnly {
		t.Errorf("%v, error %d; state %d", s, e, d.Device().State(1))
	}
	there(t, d, nil, es)
}

// P8.1: what was revived keeps what keep says; of a device that is up nothing is lost.
func TestRevive(t *testing.T) {
	d := made(t, 3, 4, 3)
	for z := range 3 {
		put(t, d, z, 'a', 'b', 'c')
	}
	d.Revive(nil)
	d.Revive([]int{0, 0, 0})
	if d.Device().Len(0) != 3 || d.Device().Len(2) != 3 {
		t.Errorf("up: %d, %d there", d.Device().Len(0), d.Device().Len(2))
	}
	come(t, d, Event{Kind: Crash})
	d.Flush()
	keep := []int{2, -7}
	d.Revive(keep)
	if d.Device().Down() || d.Device().Len(0) != 2 || d.Device().Len(1) != 0 || d.Device().Len(2) != 0 || !slices.Equal(keep, []int{2, -7}) {
		t.Errorf("down %v; %d, %d, %d there", d.Device().Down(), d.Device().Len(0), d.Device().Len(1), d.Device().Len(2))
	}
}

// P8.1: each kind does its thing, in all zones' states that matter.
func TestKindsHappen(t *testing.T) {
	d := made(t, 4, 2, 4)
	put(t, d, 0, 'a', 'b')
	put(t, d, 1, 'c')
	come(t, d, Event{Kind: Offline, Zone: 3}, Event{Kind: ReadOnly, Zone: 3}, Event{Kind: ReadOnly, Zone: 1}, Event{Kind: Spoil, Zone: 1, Pattern: sector(3)}, Event{Kind: ReadOnly, Zone: 2}, Event{Kind: Offline, Zone: 2}, Event{Kind: Spoil, Off: 1, Pattern: sector(5)})
	d.Flush()
	for z, want := range []int{zone.Full, zone.ReadOnly, zone.Offline, zone.Offline} {
		if s := d.Device().State(z); s != want {
			t.Errorf("the zone %d: state %d, want %d", z, s, want)
		}
	}
	if s, e := d.Read(1, 0); s != sector('c'^3) || e != api.OK {
		t.Errorf("%v, error %d", s, e)
	}
	if s, e := d.Read(0, 1); s != sector('b'^5) || e != api.OK {
		t.Errorf("%v, error %d", s, e)
	}
	if s, e := d.Read(0, 0); s != sector('a') || e != api.OK {
		t.Errorf("%v, error %d", s, e)
	}
	spoilt(t, d, 1, 0, sector(3), 1)
	spoilt(t, d, 0, 1, sector(5), 1)
	spoilt(t, d, 0, 0, frame.Sector{}, 0)
}

// P8.1, P8.2: what can't happen doesn't, and tells nothing of itself but that its time came.
func TestCannot(t *testing.T) {
	d := made(t, 2, 2, 2)
	put(t, d, 0, 'a')
	var es []Event
	for _, v := range append(far(), 2) {
		es = append(es, Event{Kind: Spoil, Zone: v, Pattern: sector(1)}, Event{Kind: ReadOnly, Zone: v}, Event{Kind: Offline, Zone: v}, Event{Kind: Spoil, Off: v, Pattern: sector(1)}, Event{Kind: Spoil, Zone: v, Off: v, Pattern: sector(1)})
	}
	es = append(es, Event{Kind: Spoil, Off: 1, Pattern: sector(1)}, Event{Kind: Spoil, Zone: 1, Pattern: sector(1)})
	come(t, d, es...)
	if s, e := d.Read(0, 0); s != sector('a') || e != api.OK {
		t.Errorf("%v, error %d", s, e)
	}
	there(t, d, nil, es)
	put(t, d, 0, 'b')
	put(t, d, 1, 'c')
	for z := -1; z < 3; z++ {
		for off := -1; off < 3; off++ {
			spoilt(t, d, z, off, frame.Sector{}, 0)
		}
	}
	if s, e := d.Read(0, 1); s != sector('b') || e != api.OK {
		t.Errorf("%v, error %d: spoilt ahead of its time", s, e)
	}
}

// P8.1: an event finds what the commands before it left: one sector later it could have happened.
func TestMoment(t *testing.T) {
	d := made(t, 1, 4, 1)
	come(t, d, Event{At: 1, Kind: Spoil, Off: 1, Pattern: sector(1)}, Event{At: 2, Kind: Spoil, Off: 1, Pattern: sector(2)})
	put(t, d, 0, 'a', 'b')
	spoilt(t, d, 0, 1, frame.Sector{}, 0)
	if s, e := d.Read(0, 1); s != sector('b'^2) || e != api.OK {
		t.Errorf("%v, error %d", s, e)
	}
	spoilt(t, d, 0, 1, sector(2), 1)
}

// P8.2: all patterns count, the same one twice and noughts too; each sector has its own.
func TestSpoiltMany(t *testing.T) {
	d := made(t, 2, 3, 2)
	put(t, d, 0, 'a', 'b', 'c')
	put(t, d, 1, 'd', 'e', 'f')
	p := frame.Sector{}
	for i := range p {
		p[i] = byte(i + 1)
	}
	come(t, d, Event{Kind: Spoil, Zone: 1, Off: 2, Pattern: p}, Event{Kind: Spoil, Zone: 1, Off: 2, Pattern: p})
	d.Flush()
	spoilt(t, d, 1, 2, frame.Sector{}, 2, "the same one twice")
	if s, _ := d.Read(1, 2); s != sector('f') {
		t.Error(s)
	}
	come(t, d, Event{Kind: Spoil, Zone: 1, Off: 2}, Event{Kind: Spoil, Zone: 1, Off: 1}, Event{Kind: Spoil, Zone: 1, Off: 2, Pattern: p})
	d.Flush()
	spoilt(t, d, 1, 2, p, 4, "and noughts, and once more")
	spoilt(t, d, 1, 1, frame.Sector{}, 1, "noughts alone")
	spoilt(t, d, 1, 0, frame.Sector{}, 0)
	for off := range 3 {
		spoilt(t, d, 0, off, frame.Sector{}, 0, "the other zone")
	}
	if s, _ := d.Read(1, 2); s != sector('f').Xor(p) {
		t.Error(s)
	}
}

// P8.2: what was spoilt is of the sector that is there: it goes with it, and the next one at its place has nothing of it.
func TestSpoiltSince(t *testing.T) {
	for name, lose := range map[string]func(d *Drive){
		"reset":               func(d *Drive) { d.Reset(0) },
		"lost":                func(d *Drive) { d.Plan(Event{Kind: Crash}); d.Flush(); d.Revive(nil) },
		"lost by the device":  func(d *Drive) { d.Device().Crash(); d.Device().Revive(nil) },
		"reset by the device": func(d *Drive) { d.Device().Reset(0) },
	} {
		d := made(t, 2, 2, 2)
		put(t, d, 0, 'a', 'b')
		put(t, d, 1, 'c')
		d.Device().Finish(1)
		come(t, d, Event{Kind: Spoil, Pattern: sector(1)}, Event{Kind: Spoil, Off: 1, Pattern: sector(2)})
		d.Read(0, 0)
		spoilt(t, d, 0, 0, sector(1), 1, name)
		spoilt(t, d, 0, 1, sector(2), 1, name)
		lose(d)
		spoilt(t, d, 0, 0, frame.Sector{}, 0, name, "gone")
		spoilt(t, d, 0, 1, frame.Sector{}, 0, name, "gone")
		put(t, d, 0, 'x')
		spoilt(t, d, 0, 0, frame.Sector{}, 0, name, "another one")
		spoilt(t, d, 0, 1, frame.Sector{}, 0, name, "not there yet")
		come(t, d, Event{Kind: Spoil, Pattern: sector(4)})
		put(t, d, 0, 'y')
		spoilt(t, d, 0, 0, sector(4), 1, name, "spoilt again")
		spoilt(t, d, 0, 1, frame.Sector{}, 0, name, "there again")
		if s, e := d.Read(0, 0); s != sector('x'^4) || e != api.OK {
			t.Errorf("%s: %v, error %d", name, s, e)
		}
	}
}

// P8.2: what stays in a crash stays spoilt; so does what a refused command leaves, and what stands in a zone that fails.
func TestSpoiltStays(t *testing.T) {
	d := made(t, 2, 3, 1)
	put(t, d, 0, 'a', 'b', 'c')
	for off := range 3 {
		come(t, d, Event{Kind: Spoil, Off: off, Pattern: sector(byte(off + 1))})
	}
	if off, e := d.Append(0, sector('d')); off != 0 || e != api.ErrFull {
		t.Errorf("%d, error %d", off, e)
	}
	for off := range 3 {
		spoilt(t, d, 0, off, sector(byte(off+1)), 1, "full")
	}
	d.Device().Crash()
	for off := range 3 {
		spoilt(t, d, 0, off, sector(byte(off+1)), 1, "down")
	}
	if _, e := d.Append(0, sector('d')); e != api.ErrDown {
		t.Errorf("error %d", e)
	}
	d.Revive([]int{2})
	spoilt(t, d, 0, 1, sector(2), 1, "revived")
	spoilt(t, d, 0, 2, frame.Sector{}, 0, "lost")
	for _, kind := range []int{ReadOnly, Offline} {
		come(t, d, Event{Kind: kind}, Event{Kind: Spoil, Pattern: sector(8)})
		if e := d.Reset(0); e != (map[int]api.Errno{ReadOnly: api.ErrZone, Offline: api.ErrOffline})[kind] {
			t.Errorf("error %d", e)
		}
		if off, e := d.Append(0, sector('d')); off != 0 || e == api.OK {
			t.Errorf("%d, error %d", off, e)
		}
		spoilt(t, d, 0, 1, sector(2), 1, kind)
	}
	spoilt(t, d, 0, 0, sector(1), 3, "spoilt when it had failed")
}

// P8.2: of what isn't there noughts, and 0.
func TestSpoiltNone(t *testing.T) {
	d := made(t, 2, 2, 2)
	put(t, d, 0, 'a')
	come(t, d, Event{Kind: Spoil, Pattern: sector(1)})
	d.Flush()
	for _, v := range append(far(), 1, 2) {
		spoilt(t, d, v, 0, frame.Sector{}, 0)
		spoilt(t, d, 0, v, frame.Sector{}, 0)
		spoilt(t, d, v, v, frame.Sector{}, 0)
	}
	spoilt(t, d, 0, 0, sector(1), 1)
}

// P8.2: what comes one by one comes as far as it is asked, and may be gone through again.
func TestAsked(t *testing.T) {
	d := made(t, 1, 1, 1)
	for at := range 6 {
		come(t, d, Event{At: at, Kind: Spoil, Zone: at})
	}
	for range 3 {
		d.Flush()
	}
	coming, happened := d.Coming(), d.Happened()
	for stop := range 3 {
		for name, all := range map[string]func(func(Event) bool){"to come": coming, "happened": happened} {
			n := 0
			all(func(e Event) bool {
				n++
				return n <= stop
			})
			if n != stop+1 {
				t.Errorf("%s: asked %d times, want %d", name, n, stop+1)
			}
		}
	}
	if c, h := slices.Collect(coming), slices.Collect(happened); len(c) != 3 || len(h) != 3 || c[0].At != 3 || h[0].At != 0 {
		t.Errorf("%v, %v", c, h)
	}
}

// P8.2: the device is itself, each time; it isn't another drive's.
func TestDevice(t *testing.T) {
	d, other := made(t, 2, 2, 2), made(t, 2, 2, 2)
	dev := d.Device()
	put(t, d, 0, 'a')
	come(t, d, Event{At: 1, Kind: Spoil, Pattern: sector(1)})
	d.Flush()
	if dev != d.Device() || dev.Count() != 2 || dev.Len(0) != 1 {
		t.Errorf("%d commands, %d there", dev.Count(), dev.Len(0))
	}
	if other.Device().Count() != 0 || other.Device().Len(0) != 0 {
		t.Error("another drive's device has some of it")
	}
	spoilt(t, other, 0, 0, frame.Sector{}, 0)
	there(t, other, nil, nil)
}
