package frame

import (
	"math"
	"testing"

	"revetment/api"
	"revetment/crc"
)

// noise is a row of words that differ much, the same each time.
type noise uint64

func (n *noise) below(many int) int {
	*n ^= *n << 13
	*n ^= *n >> 7
	*n ^= *n << 17
	return int(uint64(*n) >> 1 % uint64(many))
}

// sector is one of any bytes.
func (n *noise) sector() Sector {
	var s Sector
	for i := range s {
		s[i] = byte(n.below(256))
	}
	return s
}

// frame is a right one, of any numbers.
func (n *noise) frame() Frame {
	f := Frame{Kind: 1 + n.below(5), Zone: n.below(65536), Off: n.below(65536), Epoch: 1 + n.below(4294967295), Seq: n.below(281474976710656)}
	for i := range f.Body {
		f.Body[i] = byte(n.below(256))
	}
	return f
}

// plain is a right frame of which each byte is another one.
func plain() Frame {
	f := Frame{Kind: Move, Zone: 0x0807, Off: 0x0a09, Epoch: 0x0e0d0c0b, Seq: 0x14131211100f}
	for i := range f.Body {
		f.Body[i] = byte(0x15 + i)
	}
	return f
}

// edges are right frames, each at an edge of a number.
func edges() []Frame {
	l := []Frame{
		plain(),
		{Kind: 1, Epoch: 1},
		{Kind: 5, Epoch: 1},
		{Kind: 5, Zone: 65535, Off: 65535, Epoch: 4294967295, Seq: 281474976710655},
	}
	for kind := 1; kind <= 5; kind++ {
		l = append(l, with(plain(), func(f *Frame) { f.Kind = kind }))
	}
	for _, v := range []int{0, 1, 255, 256, 65534, 65535} {
		l = append(l, with(plain(), func(f *Frame) { f.Zone = v }), with(plain(), func(f *Frame) { f.Off = v }))
	}
	for _, v := range []int{1, 2, 255, 256, 65536, 1 << 31, 4294967294, 4294967295} {
		l = append(l, with(plain(), func(f *Frame) { f.Epoch = v }))
	}
	for _, v := range []int{0, 1, 255, 256, 1 << 32, 1 << 47, 281474976710654, 281474976710655} {
		l = append(l, with(plain(), func(f *Frame) { f.Seq = v }))
	}
	for _, x := range []byte{0, 1, 255} {
		l = append(l, with(plain(), func(f *Frame) {
			for i := range f.Body {
				f.Body[i] = x
			}
		}))
	}
	return l
}

// wrongs are frames that aren't right, each by one number alone.
func wrongs() []Frame {
	var l []Frame
	far := []int{-1, -2, -256, math.MinInt, math.MinInt + 1, math.MaxInt, math.MaxInt - 1, 1 << 56, 1 << 48, 1<<48 + 1}
	for _, v := range append([]int{0, 6, 7, 255, 256, 257, 1 << 8, 1 << 32}, far...) {
		l = append(l, with(plain(), func(f *Frame) { f.Kind = v }))
	}
	for _, v := range append([]int{65536, 65537, 1 << 17, 1 << 32}, far...) {
		l = append(l, with(plain(), func(f *Frame) { f.Zone = v }), with(plain(), func(f *Frame) { f.Off = v }))
	}
	for _, v := range append([]int{0, 4294967296, 4294967297, 1 << 33}, far...) {
		l = append(l, with(plain(), func(f *Frame) { f.Epoch = v }))
	}
	for _, v := range far {
		l = append(l, with(plain(), func(f *Frame) { f.Seq = v }))
	}
	return append(l, Frame{})
}

// with is f, changed so.
func with(f Frame, change func(f *Frame)) Frame {
	change(&f)
	return f
}

// layout is a frame's sector as the chapter says it, by division, without layer 2.
func layout(c crc.Table, f Frame) Sector {
	b := append([]byte{byte(f.Kind), 1}, divided(2, f.Zone)...)
	b = append(b, divided(2, f.Off)...)
	b = append(b, divided(4, f.Epoch)...)
	b = append(b, divided(6, f.Seq)...)
	b = append(b, f.Body[:]...)
	return Sector(append(b, divided(4, int(c.Sum(b)))...))
}

// divided is v in so many bytes, the lowest first.
func divided(width, v int) []byte {
	var b []byte
	for range width {
		b = append(b, byte(v%256))
		v /= 256
	}
	return b
}

// summed is s with the sum of its first 60 bytes behind them.
func summed(c crc.Table, s Sector) Sector {
	copy(s[60:], divided(4, int(c.Sum(s[:60]))))
	return s
}

// multiple is p with its last four bytes such that it is a multiple.
func multiple(c crc.Table, p Sector) Sector {
	copy(p[60:], divided(4, int(c.Raw(p[:60]))))
	return p
}

// flipped is noughts with these bits turned.
func flipped(places ...int) Sector {
	var p Sector
	for _, i := range places {
		p[i/8] ^= 1 << (i % 8)
	}
	return p
}

// encoded is a right frame's sector.
func encoded(t *testing.T, c crc.Table, f Frame) Sector {
	t.Helper()
	s, e := Encode(c, f)
	if e != api.OK {
		t.Fatalf("%+v: %d", f, e)
	}
	return s
}

// refused holds a sector to being none for that error, at whatever place.
func refused(t *testing.T, c crc.Table, s Sector, want api.Errno) {
	t.Helper()
	if f, e := Decode(c, s); e != want || f != (Frame{}) {
		t.Errorf("%x: %+v, %d, want %d", s, f, e, want)
	}
	for _, place := range [][2]int{{0, 0}, {int(s[2]) + 256*int(s[3]), int(s[4]) + 256*int(s[5])}, {-1, math.MaxInt}} {
		if f, e := At(c, s, place[0], place[1]); e != want || f != (Frame{}) {
			t.Errorf("%x at %v: %+v, %d, want %d", s, place, f, e, want)
		}
	}
}

// P3.1: the kinds have the chapter's numbers.
func TestKinds(t *testing.T) {
	if Data != 1 || Trim != 2 || Move != 3 || Head != 4 || Part != 5 {
		t.Error(Data, Trim, Move, Head, Part)
	}
}

// P3.1: a frame is right up to the edges of all its numbers, and not past them; its body may be any.
func TestRight(t *testing.T) {
	for _, f := range edges() {
		if !f.Right() {
			t.Errorf("%+v is right", f)
		}
	}
	for _, f := range wrongs() {
		if f.Right() {
			t.Errorf("%+v isn't right", f)
		}
	}
}

// P3.1: the sector of a frame whose bytes are all known.
func TestEncodeOfPlain(t *testing.T) {
	c := crc.New()
	s := encoded(t, c, plain())
	want := Sector{3, 1}
	for i := 2; i < 60; i++ {
		want[i] = byte(5 + i)
	}
	if want = summed(c, want); s != want {
		t.Errorf("%x, want %x", s, want)
	}
	if s[60] != byte(c.Sum(want[:60])) || s[63] != byte(c.Sum(want[:60])>>24) {
		t.Errorf("the sum's lowest byte isn't first: %x", s[60:])
	}
}

// P3.1: the sectors of frames at all edges, and of many others, are as the chapter lays them out, and are decoded as those frames.
func TestEncodeAndDecode(t *testing.T) {
	c := crc.New()
	l := edges()
	n := noise(3)
	for range 2000 {
		l = append(l, n.frame())
	}
	for _, f := range l {
		s := encoded(t, c, f)
		if want := layout(c, f); s != want {
			t.Fatalf("%+v: %x, want %x", f, s, want)
		}
		if g, e := Decode(c, s); g != f || e != api.OK {
			t.Fatalf("%x: %+v, %d, want %+v", s, g, e, f)
		}
		if g, e := At(c, s, f.Zone, f.Off); g != f || e != api.OK {
			t.Fatalf("%x at its place: %+v, %d", s, g, e)
		}
	}
}

// P3.1: a frame that isn't right has no sector.
func TestEncodeOfWrong(t *testing.T) {
	c := crc.New()
	for _, f := range wrongs() {
		if s, e := Encode(c, f); e != api.ErrForm || s != (Sector{}) {
			t.Errorf("%+v: %x, %d", f, s, e)
		}
	}
}

// P3.1: where the last four bytes aren't the sum, that is told, whatever else is wrong.
func TestWrongSum(t *testing.T) {
	c := crc.New()
	var ones Sector
	for i := range ones {
		ones[i] = 255
	}
	l := []Sector{{}, {1}, {63: 1}, ones}
	s := encoded(t, c, plain())
	for i := 60; i < 64; i++ {
		for x := 1; x < 256; x++ {
			b := s
			b[i] ^= byte(x)
			l = append(l, b)
		}
	}
	turned := s
	turned[60], turned[61], turned[62], turned[63] = s[63], s[62], s[61], s[60]
	raw := s
	copy(raw[60:], divided(4, int(c.Raw(s[:60]))))
	ahead := s
	copy(ahead[60:], divided(4, int(c.Sum(s[:59]))))
	l = append(l, turned, raw, ahead)
	for _, i := range []int{0, 1} {
		b := s
		b[i] = 9
		l = append(l, b)
	}
	for _, b := range l {
		refused(t, c, b, api.ErrSum)
	}
}

// P3.1: a sector whose sum is right is a frame's just if its kind is one, the byte behind it is 1, and its epoch isn't 0.
func TestWrongForm(t *testing.T) {
	c := crc.New()
	s := encoded(t, c, plain())
	for x := range 256 {
		for i := range 2 {
			b := s
			b[i] = byte(x)
			b = summed(c, b)
			if i == 0 && 1 <= x && x <= 5 || i == 1 && x == 1 {
				f := with(plain(), func(f *Frame) { f.Kind = int(b[0]) })
				if g, e := Decode(c, b); g != f || e != api.OK {
					t.Errorf("%x: %+v, %d", b, g, e)
				}
			} else {
				refused(t, c, b, api.ErrForm)
			}
		}
	}
	none := s
	copy(none[6:10], make([]byte, 4))
	refused(t, c, summed(c, none), api.ErrForm)
	for i := 6; i < 10; i++ {
		b := none
		b[i] = 1
		f := with(plain(), func(f *Frame) { f.Epoch = 1 << (8 * (i - 6)) })
		if g, e := Decode(c, summed(c, b)); g != f || e != api.OK {
			t.Errorf("%x: %+v, %d", b, g, e)
		}
	}
	refused(t, c, summed(c, Sector{}), api.ErrForm)
}

// P3.1: what is decoded of any sector is right and has that sector; what isn't is none's.
func TestDecodeOfAny(t *testing.T) {
	c := crc.New()
	n := noise(5)
	frames := 0
	for i := range 5000 {
		s := n.sector()
		s[0], s[1] = byte(n.below(8)), byte(n.below(3))
		if i%4 == 0 {
			s[6], s[7], s[8], s[9] = byte(n.below(2)), 0, 0, 0
		}
		refused(t, c, s, api.ErrSum)
		s = summed(c, s)
		f, e := Decode(c, s)
		form := s[0] >= 1 && s[0] <= 5 && s[1] == 1 && [4]byte(s[6:10]) != [4]byte{}
		if !form {
			refused(t, c, s, api.ErrForm)
			continue
		}
		frames++
		if e != api.OK || !f.Right() || layout(c, f) != s || encoded(t, c, f) != s {
			t.Fatalf("%x: %+v, %d", s, f, e)
		}
	}
	if frames < 500 {
		t.Errorf("only %d frames", frames)
	}
}

// P3.1: at another place than its own a frame is none, be it near, far, or of no sector.
func TestWrongPlace(t *testing.T) {
	c := crc.New()
	for _, f := range edges() {
		s := encoded(t, c, f)
		others := []int{-1, 0, 1, 255, 256, 65535, 65536, math.MaxInt, math.MinInt}
		for _, v := range []int{f.Zone, f.Off} {
			others = append(others, v-1, v+1, v^1, v^256, v+65536, v-65536, v+1<<32, -v, v<<8)
		}
		for _, v := range others {
			for _, at := range [][2]int{{v, f.Off}, {f.Zone, v}, {v, v}, {f.Off, f.Zone}} {
				if at == [2]int{f.Zone, f.Off} {
					continue
				}
				if g, e := At(c, s, at[0], at[1]); e != api.ErrPlace || g != (Frame{}) {
					t.Fatalf("%+v at %v: %+v, %d", f, at, g, e)
				}
			}
		}
	}
}

// P3.2: the last four bytes as a number, the lowest first, whether they are the sum or not.
func TestSum(t *testing.T) {
	for _, x := range []struct {
		last [4]byte
		want int
	}{
		{[4]byte{}, 0},
		{[4]byte{1}, 1},
		{[4]byte{0, 1}, 256},
		{[4]byte{0, 0, 0, 1}, 16777216},
		{[4]byte{4, 3, 2, 1}, 0x01020304},
		{[4]byte{0, 0, 0, 128}, 2147483648},
		{[4]byte{255, 255, 255, 255}, 4294967295},
	} {
		s := Sector{0: 9, 59: 77}
		copy(s[60:], x.last[:])
		if got := Sum(s); got != x.want {
			t.Errorf("%x: %d, want %d", x.last, got, x.want)
		}
	}
	c := crc.New()
	n := noise(7)
	for range 200 {
		s := encoded(t, c, n.frame())
		if got, want := Sum(s), int(c.Sum(s[:60])); got != want {
			t.Errorf("%x: %d, want %d", s, got, want)
		}
	}
}

// P3.2: a pattern is put in byte by byte, whichever is the pattern; twice is as if never; neither is changed.
func TestXor(t *testing.T) {
	n := noise(9)
	l := []Sector{{}, {0: 255}, {63: 1}, n.sector(), n.sector(), n.sector()}
	for _, s := range l {
		for _, p := range l {
			a, b := s, p
			got := a.Xor(b)
			for i := range got {
				if got[i] != s[i]^p[i] {
					t.Errorf("%x with %x: %x", s, p, got)
					break
				}
			}
			if a != s || b != p || got.Xor(p) != s || p.Xor(s) != got {
				t.Errorf("%x with %x", s, p)
			}
		}
		if s.Xor(Sector{}) != s || s.Xor(s) != (Sector{}) {
			t.Errorf("%x with noughts, or itself", s)
		}
	}
}

// P3.2: what has a pattern put into it that is no multiple is no frame's: all of one or two bits, and many others.
func TestPatterns(t *testing.T) {
	c := crc.New()
	n := noise(11)
	frames := []Frame{plain(), {Kind: 1, Epoch: 1}, n.frame()}
	for _, f := range frames {
		s := encoded(t, c, f)
		for i := range 512 {
			refused(t, c, s.Xor(flipped(i)), api.ErrSum)
		}
		for range 2000 {
			p := n.sector()
			if n.below(2) == 0 {
				p = flipped(n.below(512), n.below(512), n.below(512))
			}
			if !c.Multiple(p[:]) {
				refused(t, c, s.Xor(p), api.ErrSum)
			}
		}
	}
	s := encoded(t, c, plain())
	for i := range 512 {
		for j := range i {
			if _, e := Decode(c, s.Xor(flipped(i, j))); e != api.ErrSum {
				t.Fatalf("bits %d and %d: %d", i, j, e)
			}
		}
	}
}

// P3.1, P3.2: a multiple leaves the sum right: then it is what stands ahead of it that counts.
func TestMultiples(t *testing.T) {
	c := crc.New()
	n := noise(13)
	for range 300 {
		f := n.frame()
		s := encoded(t, c, f)
		p := n.sector()
		copy(p[:16], make([]byte, 16))
		p = multiple(c, p)
		if !c.Multiple(p[:]) {
			t.Fatalf("%x is none", p)
		}
		want := f
		for i := range want.Body {
			want.Body[i] ^= p[16+i]
		}
		if g, e := Decode(c, s.Xor(p)); g != want || e != api.OK {
			t.Fatalf("%x with %x: %+v, %d", s, p, g, e)
		}
		p[2+n.below(4)] ^= byte(1 + n.below(255))
		p = multiple(c, p)
		if g, e := At(c, s.Xor(p), f.Zone, f.Off); g != (Frame{}) || e != api.ErrPlace {
			t.Fatalf("%x with %x: %+v, %d", s, p, g, e)
		}
		p[1] = byte(1 + n.below(255))
		refused(t, c, s.Xor(multiple(c, p)), api.ErrForm)
	}
}

// P1: of a table that New didn't make nothing is told, but the calls end; what isn't right is refused as ever.
func TestOtherTables(t *testing.T) {
	n := noise(15)
	var odd crc.Table
	for i := range odd {
		odd[i] = uint32(n.below(1 << 32))
	}
	for _, c := range []crc.Table{{}, odd} {
		s, _ := Encode(c, plain())
		Decode(c, s)
		At(c, n.sector(), 1, 2)
		if s, e := Encode(c, Frame{}); e != api.ErrForm || s != (Sector{}) {
			t.Error(s, e)
		}
	}
}

// What is told is its own: a change of it, or of what was handed in, is seen in no later answer.
func TestMemory(t *testing.T) {
	c := crc.New()
	f := plain()
	s := encoded(t, c, f)
	was := s
	f.Body[3] = 99
	g, _ := Decode(c, s)
	g.Body[5] = 99
	s[17] ^= 1
	if h, e := Decode(c, was); h != plain() || e != api.OK {
		t.Errorf("%+v, %d", h, e)
	}
	if encoded(t, c, plain()) != was {
		t.Error("another sector of the same frame")
	}
}
