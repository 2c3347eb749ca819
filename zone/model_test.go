package zone

import (
	"testing"

	"revetment/api"
)

// model is a zone told once more, word by word as the chapter has it: its state is kept as it is told to become, and each sector knows whether it is safe.
type model struct {
	size, state int
	finished    bool
	sectors     []kept
}

type kept struct {
	x    int
	safe bool
}

// denied is what a failed zone tells of an Append, a Reset and a Finish.
func (m *model) denied() api.Errno {
	return map[int]api.Errno{Offline: api.ErrOffline, ReadOnly: api.ErrZone}[m.state]
}

func (m *model) append(x int) (int, api.Errno) {
	if e := m.denied(); e != api.OK {
		return 0, e
	}
	if m.state == Full {
		return 0, api.ErrFull
	}
	m.sectors = append(m.sectors, kept{x: x})
	m.state = Open
	if len(m.sectors) == m.size {
		m.state = Full
	}
	return len(m.sectors) - 1, api.OK
}

func (m *model) reset() api.Errno {
	if e := m.denied(); e != api.OK {
		return e
	}
	*m = model{size: m.size}
	return api.OK
}

func (m *model) finish() api.Errno {
	if e := m.denied(); e != api.OK {
		return e
	}
	m.state, m.finished = Full, true
	return api.OK
}

func (m *model) flush() {
	for i := range m.sectors {
		m.sectors[i].safe = true
	}
}

func (m *model) crash(keep int) {
	var stay []kept
	for _, k := range m.sectors {
		if !k.safe {
			if keep <= 0 {
				break
			}
			keep--
		}
		stay = append(stay, kept{k.x, true})
	}
	m.sectors = stay
	if m.state == Open || m.state == Full {
		switch {
		case m.finished, len(stay) == m.size:
			m.state = Full
		case len(stay) == 0:
			m.state = Empty
		default:
			m.state = Open
		}
	}
}

func (m *model) fail(state int) {
	if state == Offline || state == ReadOnly && m.state != Offline {
		m.state = state
	}
}

func (m *model) change(off int, f func(int) int) api.Errno {
	if off < 0 || off >= len(m.sectors) {
		return api.ErrRead
	}
	m.sectors[off].x = f(m.sectors[off].x)
	return api.OK
}

// answer is what a step tells.
type answer struct {
	v int
	e api.Errno
}

// steps is how many steps there are that step takes.
const steps = 12

// step takes the step i to a zone and to its model, x being what is appended, and tells what both answer.
func step(z *Zone[int], m *model, i, x int) (a, b answer) {
	add := func(v int) int { return v + 1000 }
	switch i {
	case 0:
		a.v, a.e = z.Append(x)
		b.v, b.e = m.append(x)
	case 1:
		a.e, b.e = z.Reset(), m.reset()
	case 2:
		a.e, b.e = z.Finish(), m.finish()
	case 3:
		z.Flush()
		m.flush()
	case 4, 5, 6, 7:
		keep := []int{-1, 0, 1, 2}[i-4]
		z.Crash(keep)
		m.crash(keep)
	case 8, 9:
		state := []int{ReadOnly, Offline}[i-8]
		z.Fail(state)
		m.fail(state)
	case 10, 11:
		a.e, b.e = z.Change(i-10, add), m.change(i-10, add)
	}
	return a, b
}

// alike tells whether all that a zone tells of itself is what its model has.
func alike(z *Zone[int], m *model) bool {
	safe, i := 0, 0
	for off, x := range z.All() {
		if off != i || i >= len(m.sectors) || x != m.sectors[i].x {
			return false
		}
		if i++; m.sectors[off].safe {
			safe++
		}
	}
	for off := -1; off <= m.size; off++ {
		if x, e := z.Read(off); (answer{x, e}) != m.read(off) {
			return false
		}
	}
	return i == len(m.sectors) && z.Len() == i && z.Safe() == safe && z.State() == m.state
}

func (m *model) read(off int) answer {
	if m.state == Offline {
		return answer{0, api.ErrOffline}
	}
	if off < 0 || off >= len(m.sectors) {
		return answer{0, api.ErrRead}
	}
	return answer{m.sectors[off].x, api.OK}
}

// walk takes a zone through steps, one by one, and holds it to its model behind each.
func walk(t *testing.T, size int, l []int) {
	t.Helper()
	z, m := made[int](t, size), &model{size: size}
	for i, s := range l {
		a, b := step(z, m, s, i+1)
		if a != b || !alike(z, m) {
			t.Fatalf("a zone of %d, the steps %v: %v, want %v; state %d, %d there, %d safe; want %v", size, l[:i+1], a, b, z.State(), z.Len(), z.Safe(), *m)
		}
	}
}

// P6.1 to P6.3: whatever is done in five steps, small zones answer as the model does.
func TestAllSteps(t *testing.T) {
	l := make([]int, 5)
	for n := range steps * steps * steps * steps * steps {
		for i := range l {
			l[i] = n % steps
			n /= steps
		}
		for size := 1; size <= 3; size++ {
			walk(t, size, l)
		}
	}
}

// P6.1 to P6.3: long rows of steps, in which appending comes more often and failing seldom, at all sizes.
func TestLongRows(t *testing.T) {
	word := uint64(88172645463325252)
	below := func(many int) int {
		word ^= word << 13
		word ^= word >> 7
		word ^= word << 17
		return int(word >> 1 % uint64(many))
	}
	often := []int{0, 0, 0, 0, 0, 0, 0, 0, 0, 0, 0, 0, 1, 2, 3, 3, 4, 5, 6, 7, 7, 10, 11}
	for size := 1; size <= 64; size++ {
		for row := range 20 {
			l := make([]int, 200)
			for i := range l {
				l[i] = often[below(len(often))]
				if i > 100 && row%4 == 0 && below(40) == 0 {
					l[i] = 8 + below(2)
				}
			}
			walk(t, size, l)
		}
	}
}
