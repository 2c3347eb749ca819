package codec

import (
	"bytes"
	"math"
	"testing"

	"revetment/api"
)

// powers are 256 to the power of each width, from 0 to 7.
var powers = []int{1, 256, 65536, 16777216, 4294967296, 1099511627776, 281474976710656, 72057594037927936}

// divided is v in so many bytes, by division.
func divided(width, v int) []byte {
	var b []byte
	for range width {
		b = append(b, byte(v%256))
		v /= 256
	}
	return b
}

// numbers are some that are in so many bytes: the edges of all widths up to it, and those whose bytes all differ.
func numbers(width int) []int {
	l := []int{0, 1, 2}
	if width > 1 {
		l = append(l, 258)
	}
	for w := 1; w <= width; w++ {
		l = append(l, powers[w]-1, powers[w]-2, powers[w]/2, powers[w-1])
	}
	up := 0
	for i := range width {
		up = up*256 + i + 1
	}
	return append(l, up, powers[width]-1-up)
}

// noise is a row of words that differ much, the same each time.
type noise uint64

func (n *noise) below(many int) int {
	*n ^= *n << 13
	*n ^= *n >> 7
	*n ^= *n << 17
	return int(uint64(*n) >> 1 % uint64(many))
}

func (n *noise) list(many int) []byte {
	b := make([]byte, many)
	for i := range b {
		b[i] = byte(n.below(256))
	}
	return b
}

// written is what the pen tells, which must be OK.
func written(t *testing.T, p *Pen) []byte {
	t.Helper()
	b, e := p.Out()
	if e != api.OK {
		t.Fatalf("error %d", e)
	}
	return b
}

// spoilt holds a pen to having gone wrong.
func spoilt(t *testing.T, p *Pen, what ...int) {
	t.Helper()
	if b, e := p.Out(); e != api.ErrRange || len(b) != 0 {
		t.Errorf("%v: %x, %d", what, b, e)
	}
}

// failed holds a reader to having gone wrong, now and for all that follows.
func failed(t *testing.T, r *Reader, what ...int) {
	t.Helper()
	for range 2 {
		if r.Rest() != 0 || r.Done() != api.ErrSize {
			t.Errorf("%v: %d left, %d", what, r.Rest(), r.Done())
		}
		for _, n := range []int{1, 0, 2, -1, 7, 8, math.MaxInt, math.MinInt} {
			if v := r.Num(n); v != 0 {
				t.Errorf("%v: the number %d in %d bytes behind", what, v, n)
			}
			if b := r.Bytes(n); len(b) != 0 {
				t.Errorf("%v: %x behind", what, b)
			}
		}
	}
}

// P2.1: a number has its lowest byte first, in as many bytes as its width says, also when fewer would do.
func TestNumbersOfAPen(t *testing.T) {
	var p Pen
	p.Num(2, 258)
	if b := written(t, &p); !bytes.Equal(b, []byte{2, 1}) {
		t.Errorf("258: %x", b)
	}
	for width := 1; width <= 7; width++ {
		for _, v := range numbers(width) {
			var p Pen
			p.Num(width, v)
			if b := written(t, &p); !bytes.Equal(b, divided(width, v)) {
				t.Errorf("%d in %d bytes: %x", v, width, b)
			}
		}
	}
}

// P2.1: what comes stands one behind the other; a pen to which nothing came tells nothing.
func TestAllThatCame(t *testing.T) {
	var p Pen
	if b := written(t, &p); len(b) != 0 {
		t.Errorf("of nothing: %x", b)
	}
	p.Bytes(nil)
	p.Bytes([]byte{})
	if b := written(t, &p); len(b) != 0 {
		t.Errorf("of no bytes: %x", b)
	}
	p.Num(1, 255)
	p.Bytes([]byte{9, 8})
	p.Bytes(nil)
	p.Num(3, 0x010203)
	p.Num(7, 1<<56-1)
	p.Bytes([]byte{0})
	p.Num(6, 0)
	want := []byte{255, 9, 8, 3, 2, 1, 255, 255, 255, 255, 255, 255, 255, 0, 0, 0, 0, 0, 0, 0}
	if b := written(t, &p); !bytes.Equal(b, want) {
		t.Errorf("%x", b)
	}
}

// P2.1: Out takes nothing away: what comes behind it comes behind what was told.
func TestOutAgain(t *testing.T) {
	var p Pen
	p.Num(2, 513)
	for range 3 {
		if b := written(t, &p); !bytes.Equal(b, []byte{1, 2}) {
			t.Errorf("%x", b)
		}
	}
	p.Bytes([]byte{7})
	p.Num(1, 8)
	if b := written(t, &p); !bytes.Equal(b, []byte{1, 2, 7, 8}) {
		t.Errorf("%x", b)
	}
}

// P2.1: wrong widths, of whatever number.
func TestWrongWidthsOfAPen(t *testing.T) {
	for _, width := range []int{0, 8, 9, -1, -7, 64, 257, math.MaxInt, math.MinInt} {
		for _, v := range []int{0, 1, -1, 255, math.MaxInt, math.MinInt} {
			var p Pen
			p.Num(width, v)
			spoilt(t, &p, width, v)
		}
	}
}

// P2.1: numbers that are none in so many bytes: the first one past each width, those far past it, and all below 0.
func TestWrongNumbersOfAPen(t *testing.T) {
	for width := 1; width <= 7; width++ {
		l := []int{powers[width], powers[width] + 1, 2 * powers[width], math.MaxInt, math.MaxInt - 1, -1, -2, -powers[width], math.MinInt, math.MinInt + 1}
		for _, more := range powers[width:] {
			l = append(l, more, -more)
		}
		for _, v := range l {
			var p Pen
			p.Num(width, v)
			spoilt(t, &p, width, v)
		}
	}
}

// P2.1: one that went wrong stays so, wherever that was among what came, and however often it is asked.
func TestPenStaysWrong(t *testing.T) {
	wrong := func(p *Pen) { p.Num(1, 256) }
	number := func(p *Pen) { p.Num(2, 5) }
	list := func(p *Pen) { p.Bytes([]byte{1, 2, 3}) }
	for i, l := range [][]func(*Pen){
		{wrong, number, list},
		{number, wrong, list},
		{list, wrong, number},
		{number, list, wrong},
		{wrong, list, wrong, number},
	} {
		var p Pen
		for _, f := range l {
			f(&p)
		}
		spoilt(t, &p, i)
		spoilt(t, &p, i)
	}
	var p Pen
	number(&p)
	written(t, &p)
	wrong(&p)
	spoilt(t, &p)
	list(&p)
	spoilt(t, &p)
}

// P2.1: two pens have nothing of each other.
func TestTwoPens(t *testing.T) {
	var a, b Pen
	a.Num(1, 1)
	b.Num(1, 256)
	a.Num(1, 2)
	if l := written(t, &a); !bytes.Equal(l, []byte{1, 2}) {
		t.Errorf("%x", l)
	}
	spoilt(t, &b)
}

// P2.2: a reader tells numbers and bytes in their order, how many are left, and when all is read.
func TestReader(t *testing.T) {
	r := New([]byte{2, 1, 9, 8, 255, 3, 2, 1})
	if r.Rest() != 8 || r.Done() != api.ErrSize {
		t.Error(r.Rest(), r.Done())
	}
	if v := r.Num(2); v != 258 || r.Rest() != 6 {
		t.Error(v, r.Rest())
	}
	if b := r.Bytes(2); !bytes.Equal(b, []byte{9, 8}) || r.Rest() != 4 {
		t.Error(b, r.Rest())
	}
	if b := r.Bytes(0); len(b) != 0 || r.Rest() != 4 {
		t.Error(b, r.Rest())
	}
	if v := r.Num(1); v != 255 || r.Rest() != 3 || r.Done() != api.ErrSize {
		t.Error(v, r.Rest(), r.Done())
	}
	if v := r.Num(3); v != 0x010203 || r.Rest() != 0 || r.Done() != api.OK {
		t.Error(v, r.Rest(), r.Done())
	}
	if b := r.Bytes(0); len(b) != 0 || r.Rest() != 0 || r.Done() != api.OK {
		t.Error(b, r.Rest(), r.Done())
	}
}

// P2.2: numbers of all widths, from their least to their greatest, whatever stands behind them.
func TestNumbersOfAReader(t *testing.T) {
	for width := 1; width <= 7; width++ {
		for _, v := range numbers(width) {
			for behind := range 3 {
				r := New(append(divided(width, v), bytes.Repeat([]byte{255}, behind)...))
				if got := r.Num(width); got != v || r.Rest() != behind {
					t.Errorf("%d in %d bytes: %d, %d left", v, width, got, r.Rest())
				}
			}
		}
	}
}

// P2.2: of nothing there is nothing to read, and that is all.
func TestReaderOfNothing(t *testing.T) {
	for _, none := range [][]byte{nil, {}} {
		r := New(none)
		if r.Rest() != 0 || r.Done() != api.OK || len(r.Bytes(0)) != 0 || r.Done() != api.OK {
			t.Error(r.Rest(), r.Done())
		}
		if v := r.Num(1); v != 0 {
			t.Error(v)
		}
		failed(t, r)
		r = New(none)
		if b := r.Bytes(1); len(b) != 0 {
			t.Error(b)
		}
		failed(t, r)
	}
}

// P2.2: fewer bytes than are asked for go wrong, at the beginning and later; as many don't.
func TestTooFewBytes(t *testing.T) {
	for many := range 8 {
		for ahead := range many + 1 {
			b := bytes.Repeat([]byte{255}, many)
			for width := 1; width <= 7; width++ {
				r := New(b)
				r.Bytes(ahead)
				v := r.Num(width)
				if width > many-ahead {
					if v != 0 {
						t.Errorf("%d of %d bytes: %d", width, many-ahead, v)
					}
					failed(t, r, many, ahead, width)
				} else if v != powers[width]-1 || r.Rest() != many-ahead-width {
					t.Errorf("%d of %d bytes: %d", width, many-ahead, v)
				}
			}
			for _, n := range []int{many - ahead + 1, many - ahead + 2, many - ahead + 100, math.MaxInt - 1, math.MaxInt} {
				r := New(b)
				r.Bytes(ahead)
				if l := r.Bytes(n); len(l) != 0 {
					t.Errorf("%d of %d bytes: %x", n, many-ahead, l)
				}
				failed(t, r, many, ahead, n)
			}
			r := New(b)
			r.Bytes(ahead)
			if l := r.Bytes(many - ahead); !bytes.Equal(l, b[ahead:]) || r.Done() != api.OK {
				t.Errorf("all %d: %x", many-ahead, l)
			}
		}
	}
}

// P2.2: wrong widths and lengths below 0 go wrong, also where there are bytes enough.
func TestWrongWidthsOfAReader(t *testing.T) {
	b := bytes.Repeat([]byte{5}, 300)
	for _, width := range []int{0, 8, 9, -1, -8, 64, 257, math.MaxInt, math.MinInt} {
		for _, l := range [][]byte{b, b[:8], nil} {
			r := New(l)
			if v := r.Num(width); v != 0 {
				t.Errorf("%d: %d", width, v)
			}
			failed(t, r, width, len(l))
		}
	}
	for _, n := range []int{-1, -2, -300, math.MinInt, math.MinInt + 1} {
		for _, l := range [][]byte{b, nil} {
			r := New(l)
			if got := r.Bytes(n); len(got) != 0 {
				t.Errorf("%d: %x", n, got)
			}
			failed(t, r, n, len(l))
		}
	}
}

// P2.2: what went wrong behind the last byte went wrong, too.
func TestWrongBehindTheLast(t *testing.T) {
	for _, f := range []func(r *Reader){
		func(r *Reader) { r.Num(1) },
		func(r *Reader) { r.Num(0) },
		func(r *Reader) { r.Num(8) },
		func(r *Reader) { r.Bytes(1) },
		func(r *Reader) { r.Bytes(-1) },
	} {
		r := New([]byte{1, 2})
		if r.Num(2) != 513 || r.Done() != api.OK {
			t.Fatal(r.Done())
		}
		f(r)
		failed(t, r)
	}
}

// P2.2: asking what is left, and whether all is read, reads nothing.
func TestAskingReadsNothing(t *testing.T) {
	r := New([]byte{1, 2, 3})
	for range 5 {
		if r.Done() != api.ErrSize || r.Rest() != 3 {
			t.Error(r.Done(), r.Rest())
		}
	}
	if v := r.Num(3); v != 0x030201 {
		t.Error(v)
	}
}

// P2.1, P2.2: what a pen writes, a reader reads, in whatever order it comes.
func TestPenAndReader(t *testing.T) {
	n := noise(7)
	for range 300 {
		var p Pen
		var all []byte
		var reads []func(r *Reader) bool
		for range n.below(12) {
			if n.below(2) == 0 {
				width := 1 + n.below(7)
				v := n.below(powers[width])
				p.Num(width, v)
				all = append(all, divided(width, v)...)
				reads = append(reads, func(r *Reader) bool { return r.Num(width) == v })
			} else {
				b := n.list(n.below(9))
				p.Bytes(b)
				all = append(all, b...)
				reads = append(reads, func(r *Reader) bool { return bytes.Equal(r.Bytes(len(b)), b) })
			}
		}
		b := written(t, &p)
		if !bytes.Equal(b, all) {
			t.Fatalf("%x, want %x", b, all)
		}
		r := New(b)
		for i, f := range reads {
			if !f(r) {
				t.Fatalf("%x: thing %d is another one", b, i)
			}
		}
		if r.Done() != api.OK || r.Rest() != 0 {
			t.Fatalf("%x: %d, %d left", b, r.Done(), r.Rest())
		}
	}
}

// P2.3: the least width, at the edges of all widths.
func TestWidth(t *testing.T) {
	for _, x := range []struct{ v, want int }{
		{0, 1}, {1, 1}, {127, 1}, {128, 1}, {255, 1},
		{256, 2}, {257, 2}, {65535, 2},
		{65536, 3}, {16777215, 3},
		{16777216, 4}, {api.MaxEpoch, 4},
		{1 << 32, 5}, {1<<40 - 1, 5},
		{1 << 40, 6}, {api.MaxSeq, 6},
		{1 << 48, 7}, {1<<56 - 1, 7},
		{1 << 56, 8}, {1<<56 + 1, 8}, {1 << 62, 8}, {math.MaxInt, 8},
		{-1, 8}, {-255, 8}, {-256, 8}, {math.MinInt, 8}, {math.MinInt + 1, 8},
	} {
		if got := Width(x.v); got != x.want {
			t.Errorf("%d: %d, want %d", x.v, got, x.want)
		}
	}
}

// P2.1, P2.3: a number is written in its width and in all greater ones, and in no less one.
func TestWidthIsTheLeast(t *testing.T) {
	n := noise(11)
	l := numbers(7)
	for width := 1; width <= 7; width++ {
		for range 50 {
			l = append(l, n.below(powers[width]))
		}
	}
	for _, v := range l {
		for width := range 9 {
			var p Pen
			p.Num(width, v)
			if _, e := p.Out(); (e == api.OK) != (width >= Width(v) && width <= 7) {
				t.Errorf("%d in %d bytes: %d, though its width is %d", v, width, e, Width(v))
			}
		}
	}
}

// A pen neither changes nor keeps what is handed in, its spare room neither, and tells new memory each time.
func TestMemoryOfAPen(t *testing.T) {
	room := []byte("abcspare")
	var p Pen
	p.Bytes(room[:3])
	if string(room) != "abcspare" {
		t.Fatalf("what was handed in is changed: %q", room)
	}
	copy(room, "xyzworn!")
	a, b := written(t, &p), written(t, &p)
	if string(a) != "abc" {
		t.Errorf("what was handed in is kept: %q", a)
	}
	a = a[:cap(a)]
	for i := range a {
		a[i] = 'x'
	}
	p.Num(1, 'd')
	p.Bytes([]byte("efgh"))
	if c := written(t, &p); string(c) != "abcdefgh" || string(b) != "abc" || string(room) != "xyzworn!" {
		t.Errorf("what is told shares memory: %q %q %q", c, b, room)
	}
	for i := range a {
		if a[i] != 'x' {
			t.Errorf("what was told is written to: %q", a)
		}
	}
}

// A reader neither changes nor keeps what is handed in, and tells no spare room, so what is told may be written to and appended to.
func TestMemoryOfAReader(t *testing.T) {
	room := []byte("abcdefspare")
	r, other := New(room[:6]), New(room[:6])
	a := r.Bytes(2)
	none := r.Bytes(0)
	if cap(a) != 2 || cap(none) != 0 {
		t.Errorf("spare room is told: %d, %d", cap(a), cap(none))
	}
	a[0], a[1] = 'x', 'x'
	_ = append(a, 'y', 'y')
	_ = append(none, 'z')
	if string(room) != "abcdefspare" {
		t.Fatalf("what was handed in is changed: %q", room)
	}
	copy(room, "ABCDEFSPARE")
	if b := r.Bytes(2); string(b) != "cd" {
		t.Errorf("what is told shares memory: %q", b)
	}
	if v := r.Num(2); v != 'e'+256*'f' {
		t.Errorf("what was handed in is kept: %x", v)
	}
	if b := other.Bytes(6); string(b) != "abcdef" || cap(b) != 6 || string(a) != "xx" {
		t.Errorf("two readers share memory: %q %q", b, a)
	}
	if string(room) != "ABCDEFSPARE" {
		t.Errorf("what was handed in is changed: %q", room)
	}
}
