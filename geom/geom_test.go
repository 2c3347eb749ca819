package geom

import (
	"math"
	"slices"
	"testing"
)

// small is the chapter's example, least is one of the least geometries, and great is one of the greatest ones.
func small() Geom { return Geom{Domains: 3, Zones: 8, Size: 8, Blocks: 12, Open: 4} }
func least() Geom { return Geom{Domains: 3, Zones: 6, Size: 4, Blocks: 1, Open: 4} }
func great() Geom { return Geom{Domains: 8, Zones: 64, Size: 64, Blocks: 126, Spare: 4, Open: 64} }

// known is a right geometry, and what it has, worked out apart from the program; most is how many blocks could be in one like it.
type known struct {
	g                             Geom
	all, parts, reserve, segments int
	commands, passes              int
	most                          int
}

func knowns() []known {
	return []known{
		{small(), 24, 7, 4, 3, 13411840, 90, 12},
		{least(), 18, 2, 4, 1, 1689600, 24, 2},
		{great(), 512, 64, 36, 152, 287918687232, 13158, 126},
		{Geom{3, 6, 4, 2, 0, 64}, 18, 2, 4, 1, 1843200, 30, 2},
		{Geom{3, 12, 6, 6, 1, 4}, 36, 4, 7, 2, 14786560, 135, 6},
		{Geom{3, 12, 7, 6, 1, 5}, 36, 4, 7, 2, 17466624, 135, 7},
		{Geom{3, 64, 64, 126, 4, 4}, 192, 64, 16, 37, 41015411712, 5418, 126},
		{Geom{4, 10, 5, 8, 0, 4}, 40, 5, 4, 9, 17385984, 66, 8},
		{Geom{4, 23, 9, 9, 2, 30}, 92, 6, 12, 14, 174175232, 360, 16},
		{Geom{5, 10, 16, 24, 1, 10}, 50, 13, 9, 3, 177555456, 567, 24},
		{Geom{8, 5, 8, 14, 0, 9}, 40, 8, 4, 7, 38384640, 102, 14},                // all domains together have too few free zones
		{Geom{8, 6, 8, 13, 0, 9}, 48, 8, 4, 11, 52800000, 96, 14},                // both bounds are the same
		{Geom{8, 7, 8, 1, 0, 9}, 56, 2, 4, 15, 32294400, 24, 14},                 // all but one have too few
		{Geom{8, 40, 64, 125, 4, 16}, 320, 64, 36, 67, 112556032512, 13056, 126}, // all together again, with spare ones
	}
}

// far are numbers that no geometry has anywhere, among them such whose products turn round.
func far() []int {
	return []int{-1, -2, -3, -4, -8, -64, -256, 257, 1 << 16, 1 << 31, 1 << 32, 1<<32 + 8, 1 << 61, 1 << 62, 1<<62 + 8, math.MaxInt, math.MaxInt - 1, math.MinInt, math.MinInt + 1, math.MinInt + 8}
}

// field is a geometry's number i, in the order in which they stand.
func field(g *Geom, i int) *int {
	return []*int{&g.Domains, &g.Zones, &g.Size, &g.Blocks, &g.Spare, &g.Open}[i]
}

// set is g, with another number i.
func set(g Geom, i, v int) Geom {
	*field(&g, i) = v
	return g
}

// wrongs are geometries that aren't right, by one number alone of one that is.
func wrongs() []Geom {
	beside := [6][]int{{0, 1, 2, 9, 10}, {0, 65, 66}, {0, 1, 2, 3, 65, 66}, {0}, {5, 6}, {0, 1, 2, 3, 65, 66}}
	l := []Geom{{}}
	for _, g := range []Geom{small(), least(), great(), {3, 64, 64, 1, 0, 64}, {8, 64, 64, 1, 0, 4}} {
		for i, numbers := range beside {
			for _, v := range append(numbers, far()...) {
				l = append(l, set(g, i, v))
			}
		}
	}
	return l
}

// bad are geometries of any numbers, most of which no geometry has.
func bad() []Geom {
	l := wrongs()
	v := []int{math.MinInt, -1, 0, 1, 3, 8, 1 << 32, math.MaxInt}
	for d := range v {
		for z := range v {
			for s := range v {
				for k := range v {
					l = append(l, Geom{v[d], v[z], v[s], v[(d+k)%8], v[(z+k)%8], v[(s+k)%8]})
				}
			}
		}
	}
	return l
}

// usedLeast is how many zones are used at least, when there are fewer pairs than the reserve, counted: of all numbers of free zones in which such may be, the greatest one. Pairs are fewest when the fullest domain has all the free zones that it can.
func usedLeast(domains, safe, reserve int) int {
	free := domains * safe
	for min(free/2, free-min(safe, free)) >= reserve {
		free--
	}
	return domains*safe - free
}

// mostBlocks is how many blocks can be, counted.
func mostBlocks(size, segments int) int {
	n := 0
	for partsOf(n+1) <= size && 2*(n+1) <= size*segments {
		n++
	}
	return n
}

// partsOf is how many sectors the checkpoint of so many blocks has, counted.
func partsOf(blocks int) int {
	n := 1
	for b := 0; b < blocks; b += 2 {
		n++
	}
	return n
}

// P5.1, P5.2: what was worked out, the chapter's example first.
func TestKnown(t *testing.T) {
	for _, x := range knowns() {
		g := x.g
		if !g.Right() {
			t.Errorf("%v isn't right", g)
		}
		got := known{g, g.All(), g.Parts(), g.Reserve(), g.Segments(), g.Commands(), g.Passes(), x.most}
		if got != x {
			t.Errorf("%v, want %v", got, x)
		}
		for b := 1; b <= 256; b++ {
			if set(g, 3, b).Right() != (b <= x.most) {
				t.Errorf("%v with %d blocks: %v", g, b, b > x.most)
			}
		}
	}
}

// P5.1: one number alone makes a geometry wrong, beside each limit and far from it, though the others would bear it.
func TestWrong(t *testing.T) {
	for _, g := range wrongs() {
		if g.Right() {
			t.Errorf("%v is right", g)
		}
	}
}

// P5.1: each number's limits themselves are right, where the others bear them.
func TestLimits(t *testing.T) {
	wide := Geom{8, 64, 64, 1, 0, 16}
	for i, limits := range [6][]int{{3, 4, 7, 8}, {4, 5, 63, 64}, {4, 5, 63, 64}, {1, 2, 125, 126}, {0, 1, 3, 4}, {4, 5, 63, 64}} {
		for _, v := range limits {
			if g := set(wide, i, v); !g.Right() {
				t.Errorf("%v isn't right", g)
			}
		}
	}
	for _, g := range []Geom{set(wide, 1, 3), set(wide, 1, 2), set(wide, 1, 1), set(wide, 3, 127), set(wide, 3, 256)} {
		if g.Right() {
			t.Errorf("%v is right, though the full segments, or a zone, have no room", g)
		}
	}
}

// P5.1, P5.2: of all numbers of domains, zones and spare ones, and all sizes, the most blocks are right, and one more isn't.
func TestMostBlocks(t *testing.T) {
	for domains := 3; domains <= 8; domains++ {
		for zones := 1; zones <= 64; zones++ {
			for spare := range 5 {
				g := Geom{Domains: domains, Zones: zones, Spare: spare, Size: 4, Blocks: 1, Open: 4}
				reserve := domains*spare + 4
				segments := usedLeast(domains, max(0, zones-spare-2), reserve)/2 - 1 - domains*spare
				if segments > 0 && g.Segments() != segments || segments <= 0 && g.Segments() > 0 {
					t.Fatalf("%v: %d full segments, want %d", g, g.Segments(), segments)
				}
				for size := 4; size <= 64; size++ {
					holdMost(t, set(g, 2, size), mostBlocks(size, segments))
				}
			}
		}
	}
}

// holdMost holds g to bearing so many blocks, and no more.
func holdMost(t *testing.T, g Geom, most int) {
	t.Helper()
	for _, b := range []int{1, most - 1, most, most + 1, most + 2, 256} {
		if b >= 1 && set(g, 3, b).Right() != (b <= most) {
			t.Fatalf("%v with %d blocks: %v; there can be %d", g, b, b > most, most)
		}
	}
}

// P5.1: all zones are numbered through the domains, each zone is in the one domain that goes over it, and what isn't there has none.
func TestZones(t *testing.T) {
	for _, x := range knowns() {
		g, all := x.g, []int{}
		for d := range g.Domains {
			l := slices.Collect(g.In(d))
			if len(l) != g.Zones {
				t.Errorf("%v: %d zones in the domain %d", g, len(l), d)
			}
			for _, z := range l {
				if g.Domain(z) != d {
					t.Errorf("%v: the zone %d of the domain %d is told in %d", g, z, d, g.Domain(z))
				}
			}
			all = append(all, l...)
		}
		for i, z := range all {
			if i != z {
				t.Fatalf("%v: the zone %d comes as number %d", g, z, i)
			}
		}
		if len(all) != g.All() || g.All() != x.all {
			t.Errorf("%v: %d zones, %d in domains", g, g.All(), len(all))
		}
		for _, z := range append(far(), g.All(), g.All()+1, g.All()+g.Zones) {
			if z >= g.All() || z < 0 {
				if d := g.Domain(z); d != -1 {
					t.Errorf("%v: the zone %d is told in %d", g, z, d)
				}
			}
		}
		for _, d := range append(far(), g.Domains, g.Domains+1, g.All()) {
			if l := slices.Collect(g.In(d)); len(l) != 0 {
				t.Errorf("%v: %v in the domain %d", g, l, d)
			}
		}
	}
}

// P5.1: the zones come as far as they are asked, and again from the beginning.
func TestAsFarAsAsked(t *testing.T) {
	in := small().In(2)
	for many := 1; many <= 8; many++ {
		var l []int
		for z := range in {
			l = append(l, z)
			if len(l) == many {
				break
			}
		}
		if !slices.Equal(l, []int{16, 17, 18, 19, 20, 21, 22, 23}[:many]) {
			t.Errorf("%d: %v", many, l)
		}
	}
	asked := 0
	in(func(int) bool { asked++; return false })
	if asked != 1 {
		t.Errorf("%d came, one was asked", asked)
	}
}

// P5.1: just the sectors of just the zones are there.
func TestHolds(t *testing.T) {
	for _, x := range knowns() {
		g := x.g
		for zone := -2; zone < g.All()+2; zone++ {
			for off := -2; off < g.Size+2; off++ {
				want := zone >= 0 && zone < g.All() && off >= 0 && off < g.Size
				if g.Holds(zone, off) != want {
					t.Fatalf("%v: %d %d: %v", g, zone, off, !want)
				}
			}
		}
		for _, v := range far() {
			if v < 0 || v >= 1<<16 {
				if g.Holds(v, 0) || g.Holds(0, v) || g.Holds(v, v) {
					t.Errorf("%v: %d", g, v)
				}
			}
		}
	}
}

// P5.1: of a geometry that isn't right nothing is held.
func TestHoldsOfWrong(t *testing.T) {
	l := append(wrongs(), set(small(), 3, 13), set(least(), 3, 3), set(least(), 1, 5), set(great(), 3, 127))
	for _, g := range l {
		for _, zone := range []int{-1, 0, 1, 5} {
			for _, off := range []int{-1, 0, 1, 3} {
				if g.Holds(zone, off) {
					t.Errorf("%v holds %d %d", g, zone, off)
				}
			}
		}
	}
}

// P5.2: the parts of each number of blocks, odd ones and even ones; a last block alone has a part.
func TestParts(t *testing.T) {
	for b := 1; b <= 126; b++ {
		g := set(great(), 3, b)
		if !g.Right() || g.Parts() != partsOf(b) {
			t.Errorf("%d blocks: %d parts", b, g.Parts())
		}
	}
}

// P5.2: each number stands in the bounds as the chapter has it: they are held against sums.
func TestBounds(t *testing.T) {
	for domains := 3; domains <= 8; domains++ {
		for spare := range 5 {
			for _, zones := range []int{20, 33, 64} {
				for blocks := 1; blocks <= 6; blocks++ {
					g := Geom{domains, zones, 32 + blocks, blocks, spare, 4}
					if g.Right() {
						holdBounds(t, g)
					}
				}
			}
		}
	}
}

func holdBounds(t *testing.T, g Geom) {
	t.Helper()
	square, failing := 0, 0
	for range g.All() + 2 {
		square += g.All() + 2
	}
	for range g.Domains {
		failing += g.Spare
	}
	if got, want := g.Commands(), 64*square*(g.Size+2)*(g.Blocks+g.Size+partsOf(g.Blocks)+4); got != want {
		t.Errorf("%v: %d commands, want %d", g, got, want)
	}
	if got, want := g.Passes(), 3*(failing+2)*(g.Blocks+3); got != want {
		t.Errorf("%v: %d passes, want %d", g, got, want)
	}
	if got, want := g.Reserve(), failing+4; got != want {
		t.Errorf("%v: a reserve of %d, want %d", g, got, want)
	}
}

// P5.2: full segments below 0, of geometries that have too few zones; halves are rounded down there, too.
func TestSegmentsBelow(t *testing.T) {
	for _, x := range []struct {
		g    Geom
		want int
	}{
		{Geom{3, 5, 4, 1, 0, 4}, 0},   // used: 2
		{Geom{3, 4, 4, 1, 0, 4}, -2},  // -1
		{Geom{3, 3, 4, 1, 0, 4}, -3},  // -4
		{Geom{3, 1, 4, 1, 0, 4}, -6},  // -10
		{Geom{4, 4, 4, 1, 0, 4}, -1},  // 1
		{Geom{8, 6, 4, 1, 4, 4}, -69}, // -71
		{Geom{}, -5},                  // -7
	} {
		if got := x.g.Segments(); got != x.want || x.g.Right() {
			t.Errorf("%v: %d, want %d; right: %v", x.g, got, x.want, x.g.Right())
		}
	}
}

// P5.1: how many zones may be open hangs on nothing else.
func TestOpen(t *testing.T) {
	for _, g := range []Geom{small(), least(), great()} {
		for open := -1; open <= 66; open++ {
			if set(g, 5, open).Right() != (open >= 4 && open <= 64) {
				t.Errorf("%v with %d open", g, open)
			}
		}
	}
}

// P1: all calls end, and none panics, of whatever numbers.
func TestBad(t *testing.T) {
	v := append(far(), 0, 1, 3, 8)
	for _, g := range bad() {
		g.Right()
		g.All()
		g.Parts()
		g.Reserve()
		g.Segments()
		g.Commands()
		g.Passes()
		for _, x := range v {
			g.Domain(x)
			g.Holds(x, x)
			g.Holds(0, x)
			for range g.In(x) {
			}
		}
	}
}
