package pool

import (
	"slices"
	"testing"

	"revetment/api"
	"revetment/geom"
)

// model is a pool told once more, word by word as the chapter has it: lists of zones, one for each domain.
type model struct {
	zones int
	free  [][]int
}

func newModel(g geom.Geom) *model {
	return &model{zones: g.Zones, free: make([][]int, g.Domains)}
}

// domain is a zone's domain, and whether there is such a zone.
func (m *model) domain(zone int) (int, bool) {
	for d := range m.free {
		if zone >= d*m.zones && zone < (d+1)*m.zones {
			return d, true
		}
	}
	return 0, false
}

func (m *model) give(zone int) api.Errno {
	d, ok := m.domain(zone)
	if !ok {
		return api.ErrRange
	}
	if slices.Contains(m.free[d], zone) {
		return api.ErrTwice
	}
	m.free[d] = append(m.free[d], zone)
	return api.OK
}

func (m *model) take(domain int) (int, api.Errno) {
	if domain < 0 || domain >= len(m.free) {
		return 0, api.ErrRange
	}
	if len(m.free[domain]) == 0 {
		return 0, api.ErrNone
	}
	zone := m.free[domain][0]
	m.free[domain] = m.free[domain][1:]
	return zone, api.OK
}

func (m *model) drop(zone int) api.Errno {
	if !slices.Contains(m.all(), zone) {
		return api.ErrNone
	}
	d, _ := m.domain(zone)
	m.free[d] = without(m.free[d], zone)
	return api.OK
}

func (m *model) pair() (int, int, api.Errno) {
	var counts []int
	for _, l := range m.free {
		counts = append(counts, len(l))
	}
	if pairsOf(counts) == 0 {
		return 0, 0, api.ErrNone
	}
	x, y := fullestTwo(counts)
	a, _ := m.take(x)
	b, _ := m.take(y)
	return a, b, api.OK
}

func (m *model) all() []int {
	return slices.Concat(m.free...)
}

// answer is what a step tells.
type answer struct {
	a, b int
	e    api.Errno
}

// move is a step: what is done, and with which number.
type move struct{ kind, number int }

// The kinds of moves.
const (
	giving = iota
	taking
	dropping
	pairing
)

// step takes a move to a pool and to its model, and tells what both answer.
func step(p *Pool, m *model, s move) (x, y answer) {
	switch s.kind {
	case giving:
		x.e, y.e = p.Give(s.number), m.give(s.number)
	case taking:
		x.a, x.e = p.Take(s.number)
		y.a, y.e = m.take(s.number)
	case dropping:
		x.e, y.e = p.Drop(s.number), m.drop(s.number)
	case pairing:
		x.a, x.b, x.e = p.Pair()
		y.a, y.b, y.e = m.pair()
	}
	return x, y
}

// walk takes a pool through moves, one by one, and holds it to its model: at each what it tells, at some, and at the end, all that it has.
func walk(t *testing.T, g geom.Geom, l []move, each int) {
	t.Helper()
	p, m := made(t, g), newModel(g)
	for i, s := range l {
		x, y := step(p, m, s)
		if x != y {
			t.Fatalf("%v, the moves %v: %v, want %v", g, l[:i+1], x, y)
		}
		if i%each == each-1 || i == len(l)-1 {
			hold(t, p, g, m.all(), l[:i+1])
		}
	}
}

// P10.1, P10.2: whatever is done in five moves, with some zones of each domain.
func TestAllMoves(t *testing.T) {
	moves := []move{
		{giving, 1}, {giving, 0}, {giving, 6}, {giving, 7}, {giving, 17},
		{taking, 0}, {taking, 1}, {dropping, 0}, {dropping, 7}, {pairing, 0},
	}
	l := make([]move, 5)
	for n := range 100000 {
		for i := range l {
			l[i] = moves[n%10]
			n /= 10
		}
		walk(t, least(), l, 5)
	}
}

// P10.1, P10.2: long rows of moves, in pools of many geometries, with numbers that aren't there among them.
func TestLongRows(t *testing.T) {
	word := uint64(88172645463325252)
	below := func(many int) int {
		word ^= word << 13
		word ^= word >> 7
		word ^= word << 17
		return int(word >> 1 % uint64(many))
	}
	often := []int{giving, giving, giving, giving, giving, giving, taking, dropping, dropping, pairing}
	for _, g := range []geom.Geom{least(), wide(), great(), {Domains: 5, Zones: 10, Size: 16, Blocks: 24, Spare: 1, Open: 10}} {
		for range 40 {
			l := make([]move, 400)
			for i := range l {
				k := often[below(len(often))]
				many := g.Domains * g.Zones
				if k == taking {
					many = g.Domains
				}
				l[i] = move{k, below(many+2) - 1}
			}
			walk(t, g, l, 40)
		}
	}
}
