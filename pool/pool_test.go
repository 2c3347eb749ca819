package pool

import (
	"math"
	"slices"
	"testing"

	"revetment/api"
	"revetment/geom"
)

// least, wide and great are right geometries: of few zones, of many domains, and of as many zones as there may be.
func least() geom.Geom { return geom.Geom{Domains: 3, Zones: 6, Size: 4, Blocks: 1, Open: 4} }
func wide() geom.Geom  { return geom.Geom{Domains: 8, Zones: 5, Size: 8, Blocks: 14, Open: 9} }
func great() geom.Geom {
	return geom.Geom{Domains: 8, Zones: 64, Size: 64, Blocks: 126, Spare: 4, Open: 64}
}

// made is an empty pool.
func made(t *testing.T, g geom.Geom) *Pool {
	t.Helper()
	p, e := New(g)
	if e != api.OK || p == nil {
		t.Fatalf("%v: error %d", g, e)
	}
	return p
}

// with is a pool to which zones were given, none of which it had.
func with(t *testing.T, g geom.Geom, zones ...int) *Pool {
	t.Helper()
	p := made(t, g)
	give(t, p, zones...)
	return p
}

// give gives zones to a pool, none of which it has.
func give(t *testing.T, p *Pool, zones ...int) {
	t.Helper()
	for _, z := range zones {
		if e := p.Give(z); e != api.OK {
			t.Fatalf("the zone %d: error %d", z, e)
		}
	}
}

// counted is a pool of which each domain has so many free zones, those with the greatest numbers first.
func counted(t *testing.T, g geom.Geom, counts []int) *Pool {
	t.Helper()
	p := made(t, g)
	for d, n := range counts {
		for i := range n {
			give(t, p, (d+1)*g.Zones-1-i)
		}
	}
	return p
}

// held is a zone that is free, and its domain.
type held struct{ domain, zone int }

// listed is all that a pool has, as it comes.
func listed(p *Pool) []held {
	var l []held
	for d, z := range p.All() {
		l = append(l, held{d, z})
	}
	return l
}

// zones is all zones that a pool has, each of which is held to its domain.
func zones(t *testing.T, p *Pool, g geom.Geom) []int {
	t.Helper()
	var l []int
	for _, x := range listed(p) {
		if x.domain != x.zone/g.Zones {
			t.Errorf("the zone %d comes with the domain %d", x.zone, x.domain)
		}
		l = append(l, x.zone)
	}
	return l
}

// hold holds a pool to the zones that it has, in order, in all that it tells, twice: looking at it changes nothing.
func hold(t *testing.T, p *Pool, g geom.Geom, want []int, what ...any) {
	t.Helper()
	for range 2 {
		if l := zones(t, p, g); !slices.Equal(l, want) {
			t.Fatalf("%v: has %v, want %v", what, l, want)
		}
		counts := make([]int, g.Domains)
		for z := -1; z <= g.Domains*g.Zones; z++ {
			there := slices.Contains(want, z)
			if there {
				counts[z/g.Zones]++
			}
			if p.Has(z) != there {
				t.Fatalf("%v: has the zone %d: %v, want %v", what, z, !there, there)
			}
		}
		for d, n := range counts {
			if p.Count(d) != n {
				t.Fatalf("%v: %d of the domain %d, want %d", what, p.Count(d), d, n)
			}
		}
		if n := pairsOf(counts); p.Pairs() != n || p.Count(-1) != 0 || p.Count(g.Domains) != 0 {
			t.Fatalf("%v: %d Pairs of %v, want %d; %d and %d in domains that aren't there", what, p.Pairs(), counts, n, p.Count(-1), p.Count(g.Domains))
		}
	}
}

// pairsOf is how many pairs can be taken, counted: a zone of the fullest domain goes with one of the next fullest, as long as there are two such.
func pairsOf(counts []int) int {
	l, n := slices.Sorted(slices.Values(counts)), 0
	for i := len(l) - 1; l[i-1] > 0; n++ {
		l[i]--
		l[i-1]--
		slices.Sort(l)
	}
	return n
}

// triedPairs is how many pairs can be taken at most, whichever are taken: all ways are tried.
func triedPairs(counts []int, known map[[4]int]int) int {
	key := [4]int(append(slices.Sorted(slices.Values(counts)), 0, 0, 0, 0))
	if n, ok := known[key]; ok {
		return n
	}
	most := 0
	for a := range counts {
		for b := range a {
			if counts[a] > 0 && counts[b] > 0 {
				left := slices.Clone(counts)
				left[a]--
				left[b]--
				most = max(most, 1+triedPairs(left, known))
			}
		}
	}
	known[key] = most
	return most
}

// eachCount goes through all counts up to most of so many domains.
func eachCount(domains, most int, f func(counts []int)) {
	all := 1
	for range domains {
		all *= most + 1
	}
	for n := range all {
		counts := make([]int, domains)
		for d := range counts {
			counts[d] = n % (most + 1)
			n /= most + 1
		}
		f(counts)
	}
}

// far are numbers that no zone and no domain has.
func far() []int {
	return []int{-1, -2, -6, -8, -64, 512, 513, 1 << 16, 1 << 31, 1 << 32, 1<<32 + 1, 1 << 62, math.MaxInt, math.MaxInt - 1, math.MinInt, math.MinInt + 1}
}

// P10.1: of geometries that are right there are empty pools, of others none.
func TestNew(t *testing.T) {
	for _, g := range []geom.Geom{least(), wide(), great(), {Domains: 3, Zones: 8, Size: 8, Blocks: 12, Open: 4}} {
		hold(t, made(t, g), g, nil, "new", g)
	}
	wrong := []geom.Geom{
		{},
		{Domains: 3, Zones: 8, Size: 8, Blocks: 13, Open: 4},
		{Domains: 2, Zones: 8, Size: 8, Blocks: 1, Open: 4},
		{Domains: 9, Zones: 8, Size: 8, Blocks: 1, Open: 4},
		{Domains: 3, Zones: 0, Size: 8, Blocks: 1, Open: 4},
		{Domains: 3, Zones: 65, Size: 8, Blocks: 1, Open: 4},
		{Domains: 3, Zones: 1, Size: 8, Blocks: 1, Open: 4},
		{Domains: 3, Zones: 8, Size: 3, Blocks: 1, Open: 4},
		{Domains: 3, Zones: 8, Size: 8, Blocks: 0, Open: 4},
		{Domains: 3, Zones: 8, Size: 8, Blocks: 1, Spare: 5, Open: 4},
		{Domains: 3, Zones: 8, Size: 8, Blocks: 1, Open: 3},
	}
	for _, n := range far() {
		wrong = append(wrong,
			geom.Geom{Domains: n, Zones: 8, Size: 8, Blocks: 1, Open: 4},
			geom.Geom{Domains: 3, Zones: n, Size: 8, Blocks: 1, Open: 4},
			geom.Geom{Domains: n, Zones: n, Size: n, Blocks: n, Spare: n, Open: n})
	}
	for _, g := range wrong {
		if p, e := New(g); p != nil || e != api.ErrGeom {
			t.Errorf("%v: %v, error %d", g, p, e)
		}
	}
}

// P10.1, P10.2: a pool that has nothing gives nothing.
func TestEmpty(t *testing.T) {
	for _, g := range []geom.Geom{least(), wide(), great()} {
		p := made(t, g)
		for d := range g.Domains {
			if z, e := p.Take(d); z != 0 || e != api.ErrNone {
				t.Errorf("%v, the domain %d: %d, error %d", g, d, z, e)
			}
		}
		for z := range g.Domains * g.Zones {
			if e := p.Drop(z); e != api.ErrNone {
				t.Errorf("%v, the zone %d: error %d", g, z, e)
			}
		}
		if a, b, e := p.Pair(); a != 0 || b != 0 || e != api.ErrNone {
			t.Errorf("%v: %d, %d, error %d", g, a, b, e)
		}
		hold(t, p, g, nil, g)
	}
}

// P10.1: zones that aren't there, and domains that aren't, are told so, whatever the pool has; it stays as it is.
func TestFar(t *testing.T) {
	for _, g := range []geom.Geom{least(), wide(), great()} {
		for _, has := range [][]int{nil, {0}, {g.Zones, 1, 0, 2*g.Zones - 1}} {
			p := with(t, g, has...)
			l := zones(t, p, g)
			for _, n := range append(far(), g.Domains*g.Zones, g.Domains*g.Zones+1) {
				if e := p.Give(n); e != api.ErrRange {
					t.Errorf("%v: Give %d: error %d", g, n, e)
				}
				if e := p.Drop(n); e != api.ErrNone {
					t.Errorf("%v: Drop %d: error %d", g, n, e)
				}
				if p.Has(n) {
					t.Errorf("%v: has %d", g, n)
				}
			}
			for _, n := range append(far(), g.Domains, g.Domains+1, g.Zones*g.Domains) {
				if z, e := p.Take(n); z != 0 || e != api.ErrRange {
					t.Errorf("%v: Take %d: %d, error %d", g, n, z, e)
				}
				if p.Count(n) != 0 {
					t.Errorf("%v: %d of the domain %d", g, p.Count(n), n)
				}
			}
			hold(t, p, g, l, g)
		}
	}
}

// P10.1: all zones that there are may be given, each once, also when all are there.
func TestGiveAll(t *testing.T) {
	for _, g := range []geom.Geom{least(), wide(), great()} {
		p, all := made(t, g), g.Domains*g.Zones
		var want []int
		for z := range all {
			give(t, p, z)
			want = append(want, z)
			if !p.Has(z) || p.Has(z+1) || p.Count(z/g.Zones) != z%g.Zones+1 {
				t.Fatalf("%v, the zone %d: %v; %v has the next one; %d are there", g, z, p.Has(z), p.Has(z+1), p.Count(z/g.Zones))
			}
		}
		for z := range all {
			if e := p.Give(z); e != api.ErrTwice {
				t.Errorf("%v, the zone %d: error %d", g, z, e)
			}
		}
		hold(t, p, g, want, g)
		if p.Pairs() != all/2 {
			t.Errorf("%v: %d Pairs", g, p.Pairs())
		}
	}
}

// P10.1: a zone that is there, first, last or between, is told so, and stays where it is; one that went may be given anew, as the last.
func TestTwice(t *testing.T) {
	g := least()
	p := with(t, g, 3, 8, 1, 5)
	for _, z := range []int{3, 1, 5, 8} {
		if e := p.Give(z); e != api.ErrTwice {
			t.Errorf("the zone %d: error %d", z, e)
		}
		hold(t, p, g, []int{3, 1, 5, 8}, z)
	}
	if z, e := p.Take(0); z != 3 || e != api.OK {
		t.Errorf("%d, error %d", z, e)
	}
	if e := p.Drop(1); e != api.OK {
		t.Errorf("error %d", e)
	}
	give(t, p, 3, 1)
	hold(t, p, g, []int{5, 3, 1, 8})
}

// P10.1: what was given first to a domain is taken first, and is there no more; the other domains stay.
func TestTake(t *testing.T) {
	g := least()
	for d := range g.Domains {
		first := d * g.Zones
		var others []int
		for o := range g.Domains {
			if o != d {
				others = append(others, o*g.Zones+4, o*g.Zones+2)
			}
		}
		p := with(t, g, others...)
		give(t, p, first+5, first, first+3)
		for _, want := range []int{first + 5, first, first + 3} {
			if z, e := p.Take(d); z != want || e != api.OK || p.Has(want) {
				t.Errorf("the domain %d: %d, error %d, want %d", d, z, e, want)
			}
		}
		for range 2 {
			if z, e := p.Take(d); z != 0 || e != api.ErrNone {
				t.Errorf("the domain %d: %d, error %d", d, z, e)
			}
		}
		hold(t, p, g, others, d)
	}
}

// P10.1: the zone 0 is a zone as others are.
func TestNought(t *testing.T) {
	g := least()
	p := with(t, g, 0)
	hold(t, p, g, []int{0})
	if z, e := p.Take(0); z != 0 || e != api.OK {
		t.Errorf("%d, error %d", z, e)
	}
	hold(t, p, g, nil)
	give(t, p, 0)
	if e := p.Drop(0); e != api.OK {
		t.Errorf("error %d", e)
	}
	hold(t, p, g, nil)
	give(t, p, 6, 0)
	if a, b, e := p.Pair(); a != 0 || b != 6 || e != api.OK {
		t.Errorf("%d, %d, error %d", a, b, e)
	}
}

// P10.1: a zone goes, wherever it stands; those that stay keep their order. It can't go twice.
func TestDrop(t *testing.T) {
	g := least()
	has := []int{10, 7, 11, 6, 9, 8}
	for i, z := range has {
		for by := range 3 {
			p := made(t, g)
			for range by {
				give(t, p, 8)
				p.Take(1)
			}
			give(t, p, has...)
			give(t, p, 17, 2)
			if e := p.Drop(z); e != api.OK {
				t.Errorf("the zone %d: error %d", z, e)
			}
			want := slices.Concat([]int{2}, has[:i], has[i+1:], []int{17})
			hold(t, p, g, want, z, by)
			if e := p.Drop(z); e != api.ErrNone {
				t.Errorf("the zone %d once more: error %d", z, e)
			}
			hold(t, p, g, want, z, by)
		}
	}
}

// P10.1: a zone that isn't free isn't dropped, though others of its domain are.
func TestDropNone(t *testing.T) {
	g := wide()
	p := with(t, g, 12, 10, 39)
	for z := range g.Domains * g.Zones {
		if z == 12 || z == 10 || z == 39 {
			continue
		}
		if e := p.Drop(z); e != api.ErrNone {
			t.Errorf("the zone %d: error %d", z, e)
		}
	}
	hold(t, p, g, []int{12, 10, 39})
}

// P10.2: the chapter's example.
func TestExample(t *testing.T) {
	p := with(t, least(), 0, 1, 6)
	if p.Pairs() != 1 {
		t.Errorf("%d Pairs", p.Pairs())
	}
	if a, b, e := p.Pair(); a != 0 || b != 6 || e != api.OK {
		t.Errorf("%d, %d, error %d", a, b, e)
	}
	hold(t, p, least(), []int{1})
	if a, b, e := p.Pair(); a != 0 || b != 0 || e != api.ErrNone {
		t.Errorf("%d, %d, error %d", a, b, e)
	}
	hold(t, p, least(), []int{1})
}

// P10.2: how many Pairs there are, worked out: half of all, rounded down, or what isn't in the fullest domain.
func TestPairs(t *testing.T) {
	for _, x := range []struct {
		counts []int
		pairs  int
	}{
		{[]int{0, 0, 0}, 0}, {[]int{1, 0, 0}, 0}, {[]int{0, 6, 0}, 0}, {[]int{1, 1, 0}, 1}, {[]int{1, 1, 1}, 1},
		{[]int{0, 2, 1}, 1}, {[]int{6, 1, 0}, 1}, {[]int{1, 6, 1}, 2}, {[]int{2, 2, 1}, 2}, {[]int{2, 2, 2}, 3},
		{[]int{3, 3, 3}, 4}, {[]int{6, 2, 3}, 5}, {[]int{6, 3, 3}, 6}, {[]int{5, 3, 3}, 5}, {[]int{6, 6, 6}, 9},
	} {
		if n := counted(t, least(), x.counts).Pairs(); n != x.pairs {
			t.Errorf("%v: %d Pairs, want %d", x.counts, n, x.pairs)
		}
	}
	if n := counted(t, great(), []int{64, 9, 9, 9, 9, 9, 9, 9}).Pairs(); n != 63 {
		t.Errorf("%d", n)
	}
	if n := counted(t, great(), []int{9, 9, 9, 9, 9, 9, 11, 64}).Pairs(); n != 64 {
		t.Errorf("%d", n)
	}
	if n := counted(t, great(), []int{9, 9, 11, 9, 64, 9, 9, 9}).Pairs(); n != 64 {
		t.Errorf("%d", n)
	}
	if n := counted(t, great(), []int{9, 9, 9, 64, 9, 10, 10, 10}).Pairs(); n != 65 {
		t.Errorf("%d", n)
	}
}

// P10.2: as many pairs can be taken as there are Pairs, and no more, whichever would be: all ways are tried.
func TestPairsTried(t *testing.T) {
	known := map[[4]int]int{}
	eachCount(3, 6, func(counts []int) {
		if n, want := counted(t, least(), counts).Pairs(), triedPairs(counts, known); n != want {
			t.Fatalf("%v: %d Pairs, want %d", counts, n, want)
		}
	})
	g := geom.Geom{Domains: 4, Zones: 6, Size: 4, Blocks: 1, Open: 4}
	eachCount(4, 4, func(counts []int) {
		if n, want := counted(t, g, counts).Pairs(), triedPairs(counts, map[[4]int]int{}); n != want {
			t.Fatalf("%v: %d Pairs, want %d", counts, n, want)
		}
	})
}

// fullestTwo is the domain with the most zones and that with the most of the others, of several the least each time.
func fullestTwo(counts []int) (int, int) {
	l := make([]int, len(counts))
	for d := range l {
		l[d] = d
	}
	slices.SortStableFunc(l, func(a, b int) int { return counts[b] - counts[a] })
	return l[0], l[1]
}

// without is a list of zones, without one of them.
func without(l []int, zone int) []int {
	return slices.DeleteFunc(slices.Clone(l), func(z int) bool { return z == zone })
}

// holdPairs takes Pair by Pair: each is of the first zones of the two fullest domains, and one of the Pairs less, till there are none; what is left then stays.
func holdPairs(t *testing.T, g geom.Geom, counts []int) {
	t.Helper()
	p, left := counted(t, g, counts), slices.Clone(counts)
	has := zones(t, p, g)
	for n := p.Pairs(); n > 0; n-- {
		x, y := fullestTwo(left)
		first := has[slices.IndexFunc(has, func(z int) bool { return z/g.Zones == x })]
		second := has[slices.IndexFunc(has, func(z int) bool { return z/g.Zones == y })]
		a, b, e := p.Pair()
		if a != first || b != second || e != api.OK || p.Pairs() != n-1 {
			t.Fatalf("%v, of %v: %d, %d, error %d, want %d, %d; %d Pairs of %d", counts, left, a, b, e, first, second, p.Pairs(), n)
		}
		left[x]--
		left[y]--
		has = without(without(has, a), b)
		if l := zones(t, p, g); !slices.Equal(l, has) || p.Has(a) || p.Has(b) {
			t.Fatalf("%v: has %v, want %v", counts, l, has)
		}
	}
	for range 2 {
		if a, b, e := p.Pair(); a != 0 || b != 0 || e != api.ErrNone {
			t.Fatalf("%v: %d, %d, error %d", counts, a, b, e)
		}
	}
	hold(t, p, g, has, counts)
}

// P10.2, P10.3: all counts of few zones, or of many domains, and some of many zones.
func TestPair(t *testing.T) {
	eachCount(3, 6, func(counts []int) { holdPairs(t, least(), counts) })
	eachCount(8, 2, func(counts []int) { holdPairs(t, wide(), counts) })
	for _, counts := range [][]int{
		{64, 64, 64, 64, 64, 64, 64, 64}, {64, 9, 9, 9, 9, 9, 9, 9}, {1, 2, 3, 4, 5, 6, 7, 64},
		{64, 0, 0, 0, 0, 0, 0, 63}, {0, 0, 64, 0, 0, 0, 0, 0}, {0, 40, 0, 40, 0, 39, 0, 40},
	} {
		holdPairs(t, great(), counts)
	}
}

// P10.2: of domains with as many zones the least come first, whichever they are; the zones' own numbers and when they were given play no part.
func TestPairAlike(t *testing.T) {
	g := least()
	for _, x := range []struct{ given, pair []int }{
		{[]int{17, 11, 5}, []int{5, 11}},
		{[]int{17, 11}, []int{11, 17}},
		{[]int{17, 5}, []int{5, 17}},
		{[]int{17, 16, 11, 5}, []int{17, 5}},
		{[]int{0, 17, 11, 10}, []int{11, 0}},
		{[]int{0, 17, 16, 11, 10}, []int{11, 17}},
		{[]int{14, 12, 13, 6, 1, 0}, []int{14, 1}},
		{[]int{14, 12, 13, 6, 7, 0}, []int{14, 6}},
		{[]int{14, 12, 13, 6, 7, 8, 3, 1}, []int{6, 14}},
	} {
		p := with(t, g, x.given...)
		if a, b, e := p.Pair(); a != x.pair[0] || b != x.pair[1] || e != api.OK {
			t.Errorf("%v: %d, %d, error %d, want %v", x.given, a, b, e, x.pair)
		}
		want := zones(t, with(t, g, without(without(x.given, x.pair[0]), x.pair[1])...), g)
		hold(t, p, g, want, x.given)
	}
}

// P10.3: two zones of unlike domains, given, make at least one more of the Pairs.
func TestGivenTwo(t *testing.T) {
	each := func(g geom.Geom, counts []int) {
		for x := range counts {
			for y := range x {
				if counts[x] == g.Zones || counts[y] == g.Zones {
					continue
				}
				p := counted(t, g, counts)
				before := p.Pairs()
				give(t, p, y*g.Zones)
				give(t, p, x*g.Zones)
				if p.Pairs() <= before {
					t.Fatalf("%v, and one of each of %d and %d: %d Pairs of %d", counts, x, y, p.Pairs(), before)
				}
			}
		}
	}
	eachCount(3, 6, func(counts []int) { each(least(), counts) })
	eachCount(8, 1, func(counts []int) { each(wide(), counts) })
}

// P10.2: all come by rising domains, in each as they were given, as far as they are asked, and again from the beginning.
func TestAll(t *testing.T) {
	g := least()
	p := with(t, g, 13, 4, 17, 0, 12, 2)
	want := []held{{0, 4}, {0, 0}, {0, 2}, {2, 13}, {2, 17}, {2, 12}}
	all := p.All()
	for asked := 1; asked <= 7; asked++ {
		var l []held
		for d, z := range all {
			if l = append(l, held{d, z}); len(l) == asked {
				break
			}
		}
		if !slices.Equal(l, want[:min(asked, 6)]) {
			t.Errorf("of %d asked %v came", asked, l)
		}
		came := 0
		all(func(int, int) bool { came++; return came < asked })
		if came != min(asked, 6) {
			t.Errorf("%d came, %d were asked", came, asked)
		}
		hold(t, p, g, []int{4, 0, 2, 13, 17, 12}, asked)
	}
}

// P10.2: what comes is what is there when it is gone through.
func TestAllLater(t *testing.T) {
	g := least()
	p := made(t, g)
	all := p.All()
	for d, z := range all {
		t.Errorf("an empty pool has the zone %d of the domain %d", z, d)
	}
	give(t, p, 7, 6, 5)
	if z, e := p.Take(1); z != 7 || e != api.OK {
		t.Errorf("%d, error %d", z, e)
	}
	var l []held
	for d, z := range all {
		l = append(l, held{d, z})
	}
	if !slices.Equal(l, []held{{0, 5}, {1, 6}}) {
		t.Errorf("%v", l)
	}
}

// P10.2: while all are gone through, the pool is whole: it may be looked at, and gone through once more; so it is behind a loop that panics.
func TestAllWithin(t *testing.T) {
	g, want := least(), []int{3, 2, 11, 12}
	p := with(t, g, want...)
	for _, z := range p.All() {
		hold(t, p, g, want, "at", z)
	}
	func() {
		defer func() {
			if r := recover(); r != "no" {
				t.Errorf("%v", r)
			}
		}()
		for _, z := range p.All() {
			if z == 2 {
				panic("no")
			}
		}
	}()
	hold(t, p, g, want)
}

// P1: a loop that changes the pool, of which nothing more is promised, ends, and nothing panics.
func TestAllEnds(t *testing.T) {
	g := least()
	for name, f := range map[string]func(p *Pool, d, z int){
		"gives": func(p *Pool, d, z int) { p.Give((z + 7) % 18) },
		"takes": func(p *Pool, d, z int) { p.Take(d); p.Take((d + 1) % 3) },
		"drops": func(p *Pool, d, z int) { p.Drop(z) },
		"pairs": func(p *Pool, d, z int) { p.Pair() },
		"turns": func(p *Pool, d, z int) { p.Drop(z); p.Give(z) },
	} {
		p := with(t, g, 0, 1, 2, 6, 7, 12)
		came := 0
		for d, z := range p.All() {
			f(p, d, z)
			came++
		}
		if came > 18 {
			t.Errorf("%s: %d came", name, came)
		}
		hold(t, p, g, zones(t, p, g), name)
	}
}

// P10.1, P10.2: two pools have nothing in common.
func TestApart(t *testing.T) {
	g := least()
	p, q := with(t, g, 0, 6, 12), with(t, g, 12, 0)
	p.Pair()
	give(t, p, 1)
	p.Drop(12)
	hold(t, q, g, []int{0, 12})
	q.Take(2)
	hold(t, p, g, []int{1})
}
