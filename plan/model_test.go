package plan

import (
	"slices"
	"testing"

	"revetment/api"
	"revetment/frame"
	"revetment/zdev"
	"revetment/zone"
)

// model is a drive told once more, by the chapter's words: events in the order in which they were given, each with whether it happened, and all patterns of each sector one by one.
type model struct {
	device   *zdev.Device
	coming   []Event
	happened []Event
	patterns [][][]frame.Sector
}

func newModel(t *testing.T, zones, size, open int) *model {
	t.Helper()
	device, e := zdev.New(zones, size, open)
	if e != api.OK {
		t.Fatal(e)
	}
	return &model{device: device, patterns: make([][][]frame.Sector, zones)}
}

// next is the place of the event that comes first: of the least At the first given.
func (m *model) next() int {
	at := -1
	for i, e := range m.coming {
		if at < 0 || e.At < m.coming[at].At {
			at = i
		}
	}
	return at
}

// counted tells whether a command at the zone z would be counted; z is -1 for Flush.
func (m *model) counted(z int, flush bool) bool {
	return !m.device.Down() && (flush || 0 <= z && z < m.device.Zones())
}

// ahead is what happens ahead of a command.
func (m *model) ahead(z int, flush bool) {
	if !m.counted(z, flush) {
		return
	}
	for !m.device.Down() {
		i := m.next()
		if i < 0 || m.coming[i].At > m.device.Count() {
			return
		}
		e := m.coming[i]
		m.coming = slices.Delete(m.coming, i, i+1)
		m.happened = append(m.happened, e)
		switch e.Kind {
		case Spoil:
			if m.device.Spoil(e.Zone, e.Off, e.Pattern) == api.OK {
				m.patterns[e.Zone][e.Off] = append(m.patterns[e.Zone][e.Off], e.Pattern)
			}
		case ReadOnly:
			m.device.Fail(e.Zone, zone.ReadOnly)
		case Offline:
			m.device.Fail(e.Zone, zone.Offline)
		case Crash:
			m.device.Crash()
		}
	}
}

// settle lets each zone have as many sectors' patterns as it has sectors.
func (m *model) settle() {
	for z := range m.patterns {
		n := m.device.Len(z)
		for len(m.patterns[z]) < n {
			m.patterns[z] = append(m.patterns[z], nil)
		}
		m.patterns[z] = m.patterns[z][:n:n]
	}
}

func (m *model) spoilt(z, off int) (frame.Sector, int) {
	if z < 0 || z >= len(m.patterns) || off < 0 || off >= len(m.patterns[z]) {
		return frame.Sector{}, 0
	}
	var s frame.Sector
	for _, p := range m.patterns[z][off] {
		for i := range s {
			s[i] ^= p[i]
		}
	}
	return s, len(m.patterns[z][off])
}

// answer is what a step tells.
type answer struct {
	off int
	s   frame.Sector
	e   api.Errno
}

// event is any event, the wrong ones too, most of them soon.
func event(m *model, below func(int) int) Event {
	e := Event{At: m.device.Count() + below(9) - 3, Kind: Spoil, Zone: below(len(m.patterns)+2) - 1, Off: below(m.device.Size()+2) - 1, Pattern: sector(byte(below(16)))}
	switch k := below(40); {
	case k < 6:
		e.Kind = Crash
	case k < 8:
		e.Kind = ReadOnly
	case k < 9:
		e.Kind = Offline
	case k < 11:
		e.Kind = below(8) - 1
	}
	return e
}

// step takes one step to a drive and to its model, the numbers coming from below, and tells what both answer.
func step(d *Drive, m *model, below func(int) int) (a, b answer) {
	z, off := below(len(m.patterns)+2)-1, below(m.device.Size()+2)-1
	switch k := below(40); {
	case k < 16:
		s := sector(byte(below(256)))
		a.off, a.e = d.Append(z, s)
		m.ahead(z, false)
		b.off, b.e = m.device.Append(z, s)
	case k < 20:
		a.s, a.e = d.Read(z, off)
		m.ahead(z, false)
		b.s, b.e = m.device.Read(z, off)
	case k < 22:
		a.e = d.Reset(z)
		m.ahead(z, false)
		b.e = m.device.Reset(z)
	case k < 23:
		a.e = d.Finish(z)
		m.ahead(z, false)
		b.e = m.device.Finish(z)
	case k < 25:
		a.e = d.Flush()
		m.ahead(-1, true)
		b.e = m.device.Flush()
	case k < 29:
		keep := make([]int, below(len(m.patterns)+3))
		for i := range keep {
			keep[i] = below(m.device.Size()+3) - 1
		}
		d.Revive(keep)
		m.device.Revive(keep)
	default:
		e := event(m, below)
		a.e = d.Plan(e)
		switch {
		case e.At < 0 || e.Kind < 1 || e.Kind > 4:
			b.e = api.ErrForm
		case len(m.coming) == 256:
			b.e = api.ErrFull
		default:
			m.coming = append(m.coming, e)
		}
	}
	m.settle()
	return a, b
}

// ordered is what is to come, in order.
func (m *model) ordered() []Event {
	left := model{coming: slices.Clone(m.coming)}
	var es []Event
	for len(left.coming) > 0 {
		i := left.next()
		es = append(es, left.coming[i])
		left.coming = slices.Delete(left.coming, i, i+1)
	}
	return es
}

// alike tells whether all that a drive tells of itself is what its model has.
func alike(d *Drive, m *model) bool {
	dev := d.Device()
	if dev.Down() != m.device.Down() || dev.Count() != m.device.Count() || !slices.Equal(slices.Collect(d.Coming()), m.ordered()) || !slices.Equal(slices.Collect(d.Happened()), m.happened) {
		return false
	}
	for z := -1; z <= len(m.patterns); z++ {
		if dev.State(z) != m.device.State(z) || dev.Len(z) != m.device.Len(z) {
			return false
		}
		var there []frame.Sector
		for _, s := range m.device.Look(z) {
			there = append(there, s)
		}
		for off, s := range dev.Look(z) {
			if s != there[off] {
				return false
			}
		}
		for off := -1; off <= m.device.Size(); off++ {
			p, n := d.Spoilt(z, off)
			q, k := m.spoilt(z, off)
			if p != q || n != k {
				return false
			}
		}
	}
	return true
}

// P8.1, P8.2: long rows of steps, on drives of few zones and many, small and great: all answers are the model's.
func TestLongRows(t *testing.T) {
	word := uint64(88172645463325252)
	below := func(many int) int {
		word ^= word << 13
		word ^= word >> 7
		word ^= word << 17
		return int(word >> 1 % uint64(many))
	}
	for row := range 600 {
		zones, size, open := 1+below(5), 1+below(5), 1+below(4)
		d, m := made(t, zones, size, open), newModel(t, zones, size, open)
		for i := range 200 {
			a, b := step(d, m, below)
			if a != b || !alike(d, m) {
				t.Fatalf("row %d, step %d: %v, want %v", row, i, a, b)
			}
		}
	}
}
