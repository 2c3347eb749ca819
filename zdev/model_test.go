package zdev

import (
	"testing"

	"revetment/api"
	"revetment/frame"
	"revetment/zone"
)

// model is a device told once more, by the chapter's words, of zones that keep a text each: a letter is a sector.
type model struct {
	size, open, count int
	down              bool
	zones             []modelZone
}

// modelZone keeps its state as it is told to become.
type modelZone struct {
	letters  string
	safe     int
	state    int
	finished bool
}

// refused are the errors that come ahead of the zone's answer; a command that isn't refused is counted.
func (m *model) refused(z int) api.Errno {
	switch {
	case m.down:
		return api.ErrDown
	case z < 0 || z >= len(m.zones):
		return api.ErrRange
	}
	m.count++
	return api.OK
}

// failed is what a zone tells that failed.
func (z *modelZone) failed() api.Errno {
	return map[int]api.Errno{zone.ReadOnly: api.ErrZone, zone.Offline: api.ErrOffline}[z.state]
}

func (m *model) append(at int, c byte) (int, api.Errno) {
	if e := m.refused(at); e != api.OK {
		return 0, e
	}
	open := 0
	for _, z := range m.zones {
		if z.state == zone.Open {
			open++
		}
	}
	z := &m.zones[at]
	switch {
	case z.state == zone.Empty && open >= m.open:
		return 0, api.ErrOpen
	case z.failed() != api.OK:
		return 0, z.failed()
	case z.state == zone.Full:
		return 0, api.ErrFull
	}
	z.letters += string(rune(c))
	z.state = zone.Open
	if len(z.letters) == m.size {
		z.state = zone.Full
	}
	return len(z.letters) - 1, api.OK
}

func (m *model) read(at, off int) (frame.Sector, api.Errno) {
	if e := m.refused(at); e != api.OK {
		return frame.Sector{}, e
	}
	z := &m.zones[at]
	switch {
	case z.state == zone.Offline:
		return frame.Sector{}, api.ErrOffline
	case off < 0 || off >= len(z.letters):
		return frame.Sector{}, api.ErrRead
	}
	return sector(z.letters[off]), api.OK
}

func (m *model) reset(at int) api.Errno {
	if e := m.refused(at); e != api.OK {
		return e
	}
	e := m.zones[at].failed()
	if e == api.OK {
		m.zones[at] = modelZone{}
	}
	return e
}

func (m *model) finish(at int) api.Errno {
	if e := m.refused(at); e != api.OK {
		return e
	}
	z := &m.zones[at]
	e := z.failed()
	if e == api.OK {
		z.state, z.finished = zone.Full, true
	}
	return e
}

func (m *model) flush() api.Errno {
	if m.down {
		return api.ErrDown
	}
	m.count++
	for i := range m.zones {
		m.zones[i].safe = len(m.zones[i].letters)
	}
	return api.OK
}

func (m *model) revive(keep []int) {
	if !m.down {
		return
	}
	m.down = false
	for i := range m.zones {
		z := &m.zones[i]
		stay := z.safe
		if i < len(keep) && keep[i] > 0 {
			stay = min(stay+keep[i], len(z.letters))
		}
		z.letters, z.safe = z.letters[:stay], stay
		if z.failed() != api.OK {
			continue
		}
		switch {
		case z.finished || stay == m.size:
			z.state = zone.Full
		case stay == 0:
			z.state = zone.Empty
		default:
			z.state = zone.Open
		}
	}
}

func (m *model) fail(at, state int) api.Errno {
	if at < 0 || at >= len(m.zones) {
		return api.ErrRange
	}
	if z := &m.zones[at]; state == zone.Offline || state == zone.ReadOnly && z.state != zone.Offline {
		z.state = state
	}
	return api.OK
}

// spoil turns the bits of p in the letter of a sector.
func (m *model) spoil(at, off int, p byte) api.Errno {
	if at < 0 || at >= len(m.zones) {
		return api.ErrRange
	}
	z := &m.zones[at]
	if off < 0 || off >= len(z.letters) {
		return api.ErrRead
	}
	b := []byte(z.letters)
	b[off] ^= p
	z.letters = string(b)
	return api.OK
}

// answer is what a step tells.
type answer struct {
	off int
	s   frame.Sector
	e   api.Errno
}

// step takes one step to a device and to its model, the numbers coming from below, and tells what both answer.
func step(d *Device, m *model, below func(int) int) (a, b answer) {
	at, off := below(len(m.zones)+2)-1, below(m.size+2)-1
	switch k := below(40); {
	case k < 18:
		c := byte('a' + below(16))
		a.off, a.e = d.Append(at, sector(c))
		b.off, b.e = m.append(at, c)
	case k < 23:
		a.s, a.e = d.Read(at, off)
		b.s, b.e = m.read(at, off)
	case k < 26:
		a.e, b.e = d.Reset(at), m.reset(at)
	case k < 28:
		a.e, b.e = d.Finish(at), m.finish(at)
	case k < 31:
		a.e, b.e = d.Flush(), m.flush()
	case k < 33:
		d.Crash()
		m.down = true
	case k < 37:
		keep := make([]int, below(len(m.zones)+3))
		for i := range keep {
			keep[i] = below(m.size+3) - 1
		}
		d.Revive(keep)
		m.revive(keep)
	case k < 39:
		p := byte(below(16))
		a.e, b.e = d.Spoil(at, off, sector(p)), m.spoil(at, off, p)
	case below(6) == 0:
		state := below(7) - 1
		a.e, b.e = d.Fail(at, state), m.fail(at, state)
	}
	return a, b
}

// alike tells whether all that a device tells of itself is what its model has.
func alike(d *Device, m *model) bool {
	if d.Down() != m.down || d.Count() != m.count || d.Zones() != len(m.zones) || d.Size() != m.size {
		return false
	}
	for i, z := range m.zones {
		if d.State(i) != z.state || d.Len(i) != len(z.letters) || text(d, i) != z.letters {
			return false
		}
	}
	return true
}

// P7.1 to P7.3: long rows of steps, on devices of few zones and many, small and great: all answers are the model's.
func TestLongRows(t *testing.T) {
	word := uint64(88172645463325252)
	below := func(many int) int {
		word ^= word << 13
		word ^= word >> 7
		word ^= word << 17
		return int(word >> 1 % uint64(many))
	}
	for row := range 1200 {
		zones, size, open := 1+below(7), 1+below(5), 1+below(4)
		d, m := made(t, zones, size, open), &model{size: size, open: open, zones: make([]modelZone, zones)}
		for i := range 250 {
			a, b := step(d, m, below)
			if a != b || !alike(d, m) {
				t.Fatalf("row %d, step %d: %v, want %v; the model: %v", row, i, a, b, *m)
			}
		}
	}
}
