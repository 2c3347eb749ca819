package crc

import (
	"bytes"
	"testing"

	"revetment/api"
)

// exponents are those of the generator, as the chapter lists them.
var exponents = []int{32, 28, 27, 26, 25, 23, 22, 20, 19, 18, 14, 13, 11, 10, 9, 8, 6, 0}

// stepped goes on from r by c as the chapter says it, bit by bit, without a table.
func stepped(r uint32, c byte) uint32 {
	r ^= uint32(c)
	for range 8 {
		low := r & 1
		r /= 2
		if low == 1 {
			r ^= 0x82f63b78
		}
	}
	return r
}

// bits are the bits of b in their order: the first one belongs to the highest power.
func bits(b []byte) []bool {
	var l []bool
	for _, c := range b {
		for i := range 8 {
			l = append(l, c>>i&1 == 1)
		}
	}
	return l
}

// divides tells, by long division, whether the generator divides b as a polynomial.
func divides(b []byte) bool {
	l := bits(b)
	for i := range l {
		if !l[i] {
			continue
		}
		if i+32 >= len(l) {
			return false
		}
		for _, x := range exponents {
			l[i+32-x] = !l[i+32-x]
		}
	}
	return true
}

// noise is a row of words that differ much, the same each time.
type noise uint32

func (n *noise) next() uint32 {
	*n ^= *n << 13
	*n ^= *n >> 17
	*n ^= *n << 5
	return uint32(*n)
}

func (n *noise) list(many int) []byte {
	b := make([]byte, many)
	for i := range b {
		b[i] = byte(n.next() >> 11)
	}
	return b
}

// xored is b with p put into it.
func xored(b, p []byte) []byte {
	l := make([]byte, len(b))
	for i := range b {
		l[i] = b[i] ^ p[i]
	}
	return l
}

// flipped is a list of noughts with these bits turned.
func flipped(many int, places ...int) []byte {
	b := make([]byte, many)
	for _, i := range places {
		b[i/8] ^= 1 << (i % 8)
	}
	return b
}

// product is the generator times the polynomial whose bits are those of b, in four bytes more than b has.
func product(b []byte) []byte {
	p := make([]byte, len(b)+4)
	for i, one := range bits(b) {
		if !one {
			continue
		}
		for _, x := range exponents {
			at := i + 32 - x
			p[at/8] ^= 1 << (at % 8)
		}
	}
	return p
}

// P1.1: the generator's word and its powers are one, and the table has what 0 goes on to.
func TestTable(t *testing.T) {
	var word uint32
	for _, x := range exponents[1:] {
		word |= 1 << (31 - x)
	}
	if word != generator {
		t.Fatalf("generator: %x, by its powers %x", uint32(generator), word)
	}
	c := New()
	for i := range 256 {
		if want := stepped(0, byte(i)); c[i] != want {
			t.Errorf("entry %d: %x, want %x", i, c[i], want)
		}
	}
	if c[0] != 0 || c[1] != 0xf26b8303 || c[128] != generator || c[255] != 0xad7d5351 {
		t.Errorf("%x %x %x %x", c[0], c[1], c[128], c[255])
	}
}

// P1.1: two tables that New made are the same, and share nothing.
func TestTablesAreTheirOwn(t *testing.T) {
	a, b := New(), New()
	if a != b {
		t.Error("two tables differ")
	}
	a[7] = 0
	if b != New() {
		t.Error("a change of one table is seen in another")
	}
}

// P1.1: Step, from the edges of words and from many between, by every byte.
func TestStep(t *testing.T) {
	c := New()
	words := []uint32{0, 1, 0x80, 0xff, 0x100, 0x80000000, generator, ^uint32(0), ^uint32(0) - 1}
	n := noise(1)
	for range 100 {
		words = append(words, n.next())
	}
	for _, r := range words {
		for i := range 256 {
			if got, want := c.Step(r, byte(i)), stepped(r, byte(i)); got != want {
				t.Fatalf("%x by %d: %x, want %x", r, i, got, want)
			}
		}
	}
}

// P1.1: Raw goes on from 0, Sum from the word of ones, with all bits turned.
func TestRawAndSum(t *testing.T) {
	c := New()
	n := noise(2)
	for many := range 70 {
		b := n.list(many)
		raw, sum := uint32(0), ^uint32(0)
		for _, x := range b {
			raw, sum = stepped(raw, x), stepped(sum, x)
		}
		if got := c.Raw(b); got != raw {
			t.Errorf("raw of %x: %x, want %x", b, got, raw)
		}
		if got := c.Sum(b); got != ^sum {
			t.Errorf("sum of %x: %x, want %x", b, got, ^sum)
		}
	}
}

// P1.1: sums that are known, and the raw sums of edges.
func TestKnownSums(t *testing.T) {
	c := New()
	up, down := make([]byte, 32), make([]byte, 32)
	for i := range up {
		up[i], down[31-i] = byte(i), byte(i)
	}
	for _, x := range []struct {
		b    []byte
		want uint32
	}{
		{nil, 0},
		{[]byte{}, 0},
		{[]byte("a"), 0xc1d04330},
		{[]byte("123456789"), 0xe3069283},
		{make([]byte, 32), 0x8a9136aa},
		{bytes.Repeat([]byte{255}, 32), 0x62a8ab43},
		{up, 0x46dd794e},
		{down, 0x113fdb5c},
	} {
		if got := c.Sum(x.b); got != x.want {
			t.Errorf("sum of %x: %x, want %x", x.b, got, x.want)
		}
	}
	if c.Raw(nil) != 0 || c.Raw([]byte{}) != 0 || c.Raw(make([]byte, 9)) != 0 {
		t.Error("the raw sum of noughts, or of nothing, isn't 0")
	}
	if got := c.Raw([]byte{0x80}); got != generator {
		t.Errorf("raw of the last bit: %x", got)
	}
}

// P1.2: Seal puts the sum behind, the lowest byte first; Open gives back what stood ahead.
func TestSealAndOpen(t *testing.T) {
	c := New()
	if got := c.Seal([]byte("123456789")); string(got) != "123456789\x83\x92\x06\xe3" {
		t.Errorf("%x", got)
	}
	for _, none := range [][]byte{nil, {}} {
		if got := c.Seal(none); !bytes.Equal(got, make([]byte, 4)) {
			t.Errorf("nothing is sealed as %x", got)
		}
	}
	n := noise(3)
	for many := range 70 {
		b := n.list(many)
		sealed := c.Seal(b)
		if len(sealed) != many+4 || !bytes.Equal(sealed[:many], b) {
			t.Fatalf("%x is sealed as %x", b, sealed)
		}
		if got, e := c.Open(sealed); e != api.OK || !bytes.Equal(got, b) {
			t.Errorf("%x is opened as %x, %d", sealed, got, e)
		}
	}
}

// P1.2: fewer than four bytes are no sealed ones; four noughts are what nothing is sealed as.
func TestOpenOfTooFew(t *testing.T) {
	c := New()
	for _, b := range [][]byte{nil, {}, {0}, {1, 2}, {0, 0, 0}, {255, 255, 255}} {
		if got, e := c.Open(b); e != api.ErrSize || len(got) != 0 {
			t.Errorf("%x: %x, %d", b, got, e)
		}
	}
	if got, e := c.Open(make([]byte, 4)); e != api.OK || len(got) != 0 {
		t.Errorf("four noughts: %x, %d", got, e)
	}
}

// P1.2: a wrong sum is told, with nothing beside it, whichever of its bytes is wrong, or where it stands.
func TestOpenOfWrongSum(t *testing.T) {
	c := New()
	s := "123456789"
	for _, b := range [][]byte{
		{0, 0, 0, 1},
		{1, 0, 0, 0},
		{255, 255, 255, 255},
		make([]byte, 5),
		[]byte(s),
		[]byte(s + "\xe3\x06\x92\x83"),
		[]byte(s + "\x82\x92\x06\xe3"),
		[]byte(s + "\x83\x93\x06\xe3"),
		[]byte(s + "\x83\x92\x07\xe3"),
		[]byte(s + "\x83\x92\x06\xe2"),
		[]byte("\x83\x92\x06\xe3" + s),
		[]byte(s + "\x83\x92\x06\xe3\x00"),
		[]byte("\x00" + s + "\x83\x92\x06\xe3"),
	} {
		if got, e := c.Open(b); e != api.ErrSum || len(got) != 0 {
			t.Errorf("%x: %x, %d", b, got, e)
		}
	}
}

// P1.2: Multiple tells the same as long division of the polynomial.
func TestMultiple(t *testing.T) {
	c := New()
	for _, b := range [][]byte{nil, {}, {0}, make([]byte, 64)} {
		if !c.Multiple(b) {
			t.Errorf("%x is a multiple", b)
		}
	}
	for i := range 255 {
		if c.Multiple([]byte{byte(i + 1)}) {
			t.Errorf("%x is none", i+1)
		}
	}
	if !c.Multiple([]byte{0x80, 0x78, 0x3b, 0xf6, 0x82}) {
		t.Error("the generator is a multiple of itself")
	}
	n := noise(4)
	for many := 1; many < 70; many++ {
		b := n.list(many)
		p := product(b)
		if !divides(p) || !c.Multiple(p) {
			t.Errorf("%x is a multiple", p)
		}
		if c.Multiple(b) != divides(b) {
			t.Errorf("%x: %v", b, c.Multiple(b))
		}
		p[int(n.next())%len(p)] ^= 4
		if c.Multiple(p) {
			t.Errorf("%x is none", p)
		}
	}
}

// P1.3: what was sealed, with a pattern put in, is opened just if the pattern is a multiple, and then as what stands ahead now.
func TestPatternsOverSealed(t *testing.T) {
	c := New()
	n := noise(5)
	for many := range 40 {
		sealed := c.Seal(n.list(many))
		patterns := [][]byte{make([]byte, many+4), bytes.Repeat([]byte{255}, many+4), product(n.list(many)), c.Seal(make([]byte, many)), n.list(many + 4), sealed}
		for _, p := range patterns {
			b := xored(sealed, p)
			got, e := c.Open(b)
			if divides(p) {
				if e != api.OK || !bytes.Equal(got, b[:many]) || !c.Multiple(p) {
					t.Errorf("%x with %x: %x, %d", sealed, p, got, e)
				}
			} else if e != api.ErrSum || len(got) != 0 || c.Multiple(p) {
				t.Errorf("%x with %x: %x, %d", sealed, p, got, e)
			}
		}
	}
}

// P1.3: a pattern whose ones lie within 32 bits in a row is no multiple, wherever they lie: single ones, all pairs, and many others.
func TestBurstsAreNoMultiples(t *testing.T) {
	const many = 64
	c := New()
	n := noise(6)
	sealed := c.Seal(n.list(many - 4))
	spoilt := func(p []byte) {
		t.Helper()
		if c.Multiple(p) {
			t.Errorf("%x is a multiple", p)
		}
		if got, e := c.Open(xored(sealed, p)); e != api.ErrSum || len(got) != 0 {
			t.Errorf("with %x: %x, %d", p, got, e)
		}
	}
	for first := range many * 8 {
		spoilt(flipped(many, first))
		for apart := 1; apart < 32 && first+apart < many*8; apart++ {
			spoilt(flipped(many, first, first+apart))
		}
		for range 20 {
			w, p := n.next(), make([]byte, many)
			for i := range 32 {
				if w>>i&1 == 1 && first+i < many*8 {
					p[(first+i)/8] ^= 1 << ((first + i) % 8)
				}
			}
			if !bytes.Equal(p, make([]byte, many)) {
				spoilt(p)
			}
		}
	}
}

// P1.3: of 33 bits in a row a pattern may be a multiple: the generator, wherever it lies.
func TestGeneratorAtEveryPlace(t *testing.T) {
	const many = 64
	c := New()
	sealed := c.Seal(make([]byte, many-4))
	for first := range many*8 - 32 {
		var places []int
		for _, x := range exponents {
			places = append(places, first+32-x)
		}
		p := flipped(many, places...)
		if !c.Multiple(p) {
			t.Fatalf("from bit %d: none", first)
		}
		if _, e := c.Open(xored(sealed, p)); e != api.OK {
			t.Fatalf("from bit %d: %d", first, e)
		}
	}
}

// All calls leave what is handed in, its spare room too, and tell new memory.
func TestMemory(t *testing.T) {
	c := New()
	room := []byte("123456789\x83\x92\x06\xe3spare")
	was := string(room)
	sealed, again := c.Seal(room[:9]), c.Seal(room[:9])
	opened, _ := c.Open(room[:13])
	twice, _ := c.Open(room[:13])
	c.Raw(room)
	c.Sum(room)
	c.Multiple(room)
	_, e := c.Open(room[:12])
	if string(room) != was || e != api.ErrSum {
		t.Fatalf("what was handed in is changed: %q", room)
	}
	for _, l := range [][]byte{sealed, opened} {
		l = l[:cap(l)]
		for i := range l {
			l[i] = 'x'
		}
	}
	if string(room) != was || string(again) != was[:13] || string(twice) != was[:9] {
		t.Errorf("what is told shares memory: %q %q %q", room, again, twice)
	}
}

// P1: no call panics, of a table that New didn't make either.
func TestOtherTables(t *testing.T) {
	var none Table
	for _, b := range [][]byte{nil, {}, {1}, {1, 2, 3, 4}, make([]byte, 100)} {
		none.Step(^uint32(0), 255)
		none.Raw(b)
		none.Sum(b)
		none.Seal(b)
		none.Open(b)
		none.Multiple(b)
	}
}
