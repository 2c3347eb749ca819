package entry

import (
	"math"
	"testing"

	"revetment/api"
	"revetment/crc"
	"revetment/frame"
)

// noise is a row of words that differ much, the same each time.
type noise uint64

func (n *noise) below(many int) int {
	*n ^= *n << 13
	*n ^= *n >> 7
	*n ^= *n << 17
	return int(uint64(*n) >> 1 % uint64(many))
}

// block is one of any bytes.
func (n *noise) block() Block {
	var b Block
	for i := range b {
		b[i] = byte(n.below(256))
	}
	return b
}

// entry is a right one, of any kind and numbers.
func (n *noise) entry() Entry {
	e := Entry{Kind: 1 + n.below(3), First: n.below(281474976710656), Count: 1, Block: n.below(256), Mate: n.below(65536)}
	switch e.Kind {
	case 1:
		e.Count, e.Bytes = 1+n.below(4), n.block()
	case 2:
		e.Many = 1 + n.below(256-e.Block)
	case 3:
		e.Bytes = n.block()
	}
	return e
}

// data, trim and move are right entries, of each kind one, of which each byte is another one where it may be.
func data() Entry {
	e := Entry{Kind: 1, First: 0x111213141516, Count: 3, Block: 0x17, Mate: 0x1918}
	for i := range e.Bytes {
		e.Bytes[i] = byte(0x20 + i)
	}
	return e
}

func trim() Entry {
	return Entry{Kind: 2, First: 0x111213141516, Count: 1, Block: 0x17, Many: 0x68, Mate: 0x1918}
}

func move() Entry {
	return with(data(), func(e *Entry) { e.Kind, e.Count = 3, 1 })
}

// kinds are right entries, of each kind one.
func kinds() []Entry {
	return []Entry{data(), trim(), move()}
}

// with is e, changed so.
func with(e Entry, change func(e *Entry)) Entry {
	change(&e)
	return e
}

// edges are right entries, each at an edge of a number.
func edges() []Entry {
	var l []Entry
	for _, e := range kinds() {
		l = append(l, e)
		for _, v := range []int{0, 1, 255, 256, 1 << 32, 1 << 47, 281474976710654, 281474976710655} {
			l = append(l, with(e, func(e *Entry) { e.First = v }))
		}
		for _, v := range []int{0, 1, 255, 256, 65534, 65535} {
			l = append(l, with(e, func(e *Entry) { e.Mate = v }))
		}
		for _, v := range []int{0, 1, 127, 128, 151, 152} { // 152 is the last one of which a Trim of 0x68 blocks may be
			l = append(l, with(e, func(e *Entry) { e.Block = v }))
		}
	}
	for _, e := range []Entry{data(), move()} {
		l = append(l, with(e, func(e *Entry) { e.Block = 255 }))
		for _, x := range []byte{0, 1, 255} {
			l = append(l, with(e, func(e *Entry) { e.Bytes = Fill(x) }))
		}
	}
	for v := 1; v <= 4; v++ {
		l = append(l, with(data(), func(e *Entry) { e.Count = v }))
	}
	for block := range 256 {
		for _, many := range []int{1, 256 - block} {
			l = append(l, with(trim(), func(e *Entry) { e.Block, e.Many = block, many }))
		}
	}
	return append(l, Entry{Kind: 1, Count: 1}, Entry{Kind: 2, Count: 1, Many: 1}, Entry{Kind: 3, Count: 1})
}

// wrongs are entries that aren't right, each by one number alone, or by its bytes.
func wrongs() []Entry {
	l := []Entry{{}}
	far := []int{-1, -2, -256, math.MinInt, math.MinInt + 1, math.MaxInt, math.MaxInt - 1, 1 << 56, 1 << 48, 1<<48 + 1}
	for _, e := range kinds() {
		for _, v := range append([]int{0, 4, 5, 6, 255, 256, 257, 258, 259, 1 << 32}, far...) {
			l = append(l, with(e, func(e *Entry) { e.Kind = v }))
		}
		for _, v := range far {
			l = append(l, with(e, func(e *Entry) { e.First = v }))
		}
		for _, v := range append([]int{0, 5, 6, 255, 256, 257, 1 << 32}, far...) {
			l = append(l, with(e, func(e *Entry) { e.Count = v }))
		}
		for _, v := range append([]int{256, 257, 65536, 1 << 32}, far...) {
			l = append(l, with(e, func(e *Entry) { e.Block = v }))
		}
		for _, v := range append([]int{65536, 65537, 1 << 17, 1 << 32}, far...) {
			l = append(l, with(e, func(e *Entry) { e.Mate = v }))
		}
		for _, v := range append([]int{257, 65536, 65537, 1 << 32}, far...) {
			l = append(l, with(e, func(e *Entry) { e.Many = v }))
		}
	}
	for v := 2; v <= 4; v++ {
		l = append(l, with(trim(), func(e *Entry) { e.Count = v }), with(move(), func(e *Entry) { e.Count = v }))
	}
	for _, v := range []int{1, 2, 255, 256} {
		l = append(l, with(data(), func(e *Entry) { e.Many = v }), with(move(), func(e *Entry) { e.Many = v }))
	}
	for block := range 256 {
		for _, many := range []int{-1, 0, 257 - block, 512 - block} {
			l = append(l, with(trim(), func(e *Entry) { e.Block, e.Many = block, many }))
		}
	}
	for i := range 32 {
		l = append(l, with(trim(), func(e *Entry) { e.Bytes[i] = 1 }))
	}
	return l
}

// layout is a right entry's body as the chapter says it, by division, without layer 2.
func layout(e Entry) [44]byte {
	b := append(divided(6, e.First), divided(1, e.Count)...)
	b = append(b, divided(1, e.Block)...)
	b = append(b, divided(2, e.Many)...)
	b = append(b, divided(2, e.Mate)...)
	return [44]byte(append(b, e.Bytes[:]...))
}

// divided is v in so many bytes, the lowest first.
func divided(width, v int) []byte {
	var b []byte
	for range width {
		b = append(b, byte(v%256))
		v /= 256
	}
	return b
}

// may tells, byte by byte, whether a body is a right entry's of that kind: First, Block and Mate may be any.
func may(kind int, b [44]byte) bool {
	count, block, many := int(b[6]), int(b[7]), int(b[8])+256*int(b[9])
	switch kind {
	case 1:
		return count >= 1 && count <= 4 && many == 0
	case 2:
		return count == 1 && many >= 1 && block+many <= 256 && [32]byte(b[12:]) == [32]byte{}
	case 3:
		return count == 1 && many == 0
	}
	return false
}

// bodied is a right entry's body.
func bodied(t *testing.T, e Entry) [44]byte {
	t.Helper()
	b, f := e.Body()
	if f != api.OK {
		t.Fatalf("%+v: %d", e, f)
	}
	return b
}

// framed is an entry's frame with a right place and epoch.
func framed(t *testing.T, e Entry, seq int) frame.Frame {
	t.Helper()
	f, x := e.Frame(7, 2, 9, seq)
	if x != api.OK {
		t.Fatalf("%+v as %d: %d", e, seq, x)
	}
	return f
}

// unread holds a frame to being none that Frame tells.
func unread(t *testing.T, f frame.Frame) {
	t.Helper()
	if e, x := Read(f); x != api.ErrForm || e != (Entry{}) {
		t.Errorf("%+v: %+v, %d", f, e, x)
	}
}

// P4.1: an entry is right up to the edges of all that it has, and not past them; what its kind hasn't is 0, or noughts.
func TestRight(t *testing.T) {
	for _, e := range edges() {
		if !e.Right() {
			t.Errorf("%+v is right", e)
		}
	}
	for _, e := range wrongs() {
		if e.Right() {
			t.Errorf("%+v isn't right", e)
		}
	}
}

// P4.1: of all small numbers, an entry is right just if the chapter's table says so.
func TestRightOfSmall(t *testing.T) {
	for kind := -1; kind <= 6; kind++ {
		for count := -1; count <= 6; count++ {
			for _, block := range []int{-1, 0, 1, 200, 254, 255, 256} {
				for _, many := range []int{-1, 0, 1, 2, 3, 55, 56, 57, 254, 255, 256, 257} {
					for _, x := range []byte{0, 7} {
						e := Entry{Kind: kind, Count: count, Block: block, Many: many, Bytes: Fill(x)}
						want := block >= 0 && block <= 255 && may(kind, layout(e)) && count > 0 && many >= 0
						if e.Right() != want {
							t.Errorf("%+v: %v", e, !want)
						}
					}
				}
			}
		}
	}
}

// P4.1: the bodies of entries whose bytes are all known.
func TestBodyOfPlain(t *testing.T) {
	want := [44]byte{0x16, 0x15, 0x14, 0x13, 0x12, 0x11, 3, 0x17, 0, 0, 0x18, 0x19}
	for i := 12; i < 44; i++ {
		want[i] = byte(0x14 + i)
	}
	if b := bodied(t, data()); b != want {
		t.Errorf("%x, want %x", b, want)
	}
	want[6] = 1
	if b := bodied(t, move()); b != want {
		t.Errorf("%x, want %x", b, want)
	}
	want = [44]byte{0x16, 0x15, 0x14, 0x13, 0x12, 0x11, 1, 0x17, 0x68, 0, 0x18, 0x19}
	if b := bodied(t, trim()); b != want {
		t.Errorf("%x, want %x", b, want)
	}
	all := Entry{Kind: frame.Trim, Count: 1, Many: api.MaxBlocks}
	if b := bodied(t, all); b != [44]byte([]byte{6: 1, 9: 1, 43: 0}) {
		t.Errorf("%x", b)
	}
}

// P4.1: the bodies of entries at all edges, and of many others, are as the chapter lays them out, and are those entries'.
func TestBodyAndOf(t *testing.T) {
	l := edges()
	n := noise(3)
	for range 3000 {
		l = append(l, n.entry())
	}
	for _, e := range l {
		b := bodied(t, e)
		if want := layout(e); b != want {
			t.Fatalf("%+v: %x, want %x", e, b, want)
		}
		if x, f := Of(e.Kind, b); x != e || f != api.OK {
			t.Fatalf("%x: %+v, %d, want %+v", b, x, f, e)
		}
	}
}

// P4.1: an entry that isn't right has no body, and no frame.
func TestBodyOfWrong(t *testing.T) {
	for _, e := range wrongs() {
		if b, f := e.Body(); f != api.ErrForm || b != [44]byte{} {
			t.Errorf("%+v: %x, %d", e, b, f)
		}
		for _, seq := range []int{e.First, 0, 1, api.MaxSeq} {
			if f, x := e.Frame(0, 0, 1, seq); x != api.ErrForm || f != (frame.Frame{}) {
				t.Errorf("%+v as %d: %+v, %d", e, seq, f, x)
			}
		}
	}
}

// held holds Of to what the chapter says of that body.
func held(t *testing.T, kind int, b [44]byte) {
	t.Helper()
	e, f := Of(kind, b)
	if !may(kind, b) {
		if f != api.ErrForm || e != (Entry{}) {
			t.Fatalf("%d, %x: %+v, %d", kind, b, e, f)
		}
		return
	}
	if f != api.OK || e.Kind != kind || !e.Right() || layout(e) != b {
		t.Fatalf("%d, %x: %+v, %d", kind, b, e, f)
	}
}

// P4.1: a body with any one byte changed is an entry's just if the table says so; then it is that one's whose body it is.
func TestOfEachByte(t *testing.T) {
	for _, e := range kinds() {
		was := layout(e)
		for i := range was {
			for x := range 256 {
				b := was
				b[i] = byte(x)
				for kind := range 6 {
					held(t, kind, b)
				}
			}
		}
	}
}

// P4.1: so it is with any bodies, of any kinds.
func TestOfAny(t *testing.T) {
	n := noise(5)
	right := 0
	far := []int{-1, -255, math.MinInt, math.MaxInt, 0, 4, 5, 6, 257, 258, 259, 1<<32 + 1}
	for i := range 20000 {
		var b [44]byte
		for i := range b {
			b[i] = byte(n.below(256))
		}
		b[6], b[8], b[9] = byte(n.below(7)), byte(n.below(256)), byte(n.below(3))
		if i%2 == 0 {
			b[6], b[9] = 1, 0
			b[7], b[8] = byte(n.below(256)), byte(n.below(2)*n.below(256))
		}
		if i%3 == 0 {
			copy(b[12:], make([]byte, 32))
		}
		for kind := 1; kind <= 3; kind++ {
			held(t, kind, b)
			if may(kind, b) {
				right++
			}
		}
		held(t, far[i%len(far)], b)
	}
	if right < 5000 {
		t.Errorf("only %d entries", right)
	}
}

// P4.1: noughts, and bytes that are all ones, are no entry's.
func TestOfPlainBodies(t *testing.T) {
	var ones [44]byte
	for i := range ones {
		ones[i] = 255
	}
	for kind := -1; kind <= 6; kind++ {
		for _, b := range [][44]byte{{}, ones} {
			if e, f := Of(kind, b); f != api.ErrForm || e != (Entry{}) {
				t.Errorf("%d, %x: %+v, %d", kind, b, e, f)
			}
		}
	}
}

// P4.2: the frame has the entry's kind and body, and the place, epoch and number that it is given; it is read as that entry.
func TestFrameAndRead(t *testing.T) {
	l := edges()
	n := noise(7)
	for range 3000 {
		l = append(l, n.entry())
	}
	for _, e := range l {
		zone, off, epoch := n.below(65536), n.below(65536), 1+n.below(4294967295)
		seq := min(e.First+n.below(e.Count), api.MaxSeq)
		f, x := e.Frame(zone, off, epoch, seq)
		want := frame.Frame{Kind: e.Kind, Zone: zone, Off: off, Epoch: epoch, Seq: seq, Body: layout(e)}
		if f != want || x != api.OK {
			t.Fatalf("%+v: %+v, %d, want %+v", e, f, x, want)
		}
		if y, x := Read(f); y != e || x != api.OK {
			t.Fatalf("%+v: %+v, %d, want %+v", f, y, x, e)
		}
	}
}

// P4.2: an entry's record has one of the Count numbers from First on, and no other one.
func TestNumbers(t *testing.T) {
	l := []Entry{trim(), move()}
	for count := 1; count <= 4; count++ {
		for _, first := range []int{0, 1, 2, 3, 4, 10, 255, 1 << 32, api.MaxSeq - 4, api.MaxSeq - 3, api.MaxSeq - 1, api.MaxSeq} {
			l = append(l, with(data(), func(e *Entry) { e.First, e.Count = first, count }))
		}
	}
	for _, e := range l {
		seqs := []int{-1, 0, math.MinInt, math.MinInt + 1, math.MinInt + 3, math.MinInt + 4, math.MaxInt, math.MaxInt - 3, api.MaxSeq + 1, -e.First, e.First + 1<<48, e.First - 1<<48}
		for i := -6; i <= 6; i++ {
			seqs = append(seqs, e.First+i)
		}
		for _, seq := range seqs {
			right := seq >= e.First && seq <= e.First+e.Count-1 && seq <= api.MaxSeq
			f, x := e.Frame(1, 2, 3, seq)
			if right != (x == api.OK) || right != (f != frame.Frame{}) || !right && x != api.ErrForm {
				t.Errorf("%+v as %d: %+v, %d", e, seq, f, x)
			}
			g := frame.Frame{Kind: e.Kind, Zone: 1, Off: 2, Epoch: 3, Seq: seq, Body: layout(e)}
			if !right {
				unread(t, g)
			} else if y, x := Read(g); y != e || x != api.OK {
				t.Errorf("%+v: %+v, %d", g, y, x)
			}
		}
	}
}

// P4.2: the chapter's example.
func TestTrimAsNumberFive(t *testing.T) {
	e := Entry{Kind: frame.Trim, First: 5, Count: 1, Many: 1}
	if y, x := Read(framed(t, e, 5)); y != e || y.First != 5 || x != api.OK {
		t.Error(y, x)
	}
	e.First = 4
	if f, x := e.Frame(7, 2, 9, 5); x != api.ErrForm || f != (frame.Frame{}) {
		t.Error(f, x)
	}
}

// P4.2: where the frame isn't right, none is told, and none is read; at the edges one is.
func TestFrameOfWrongPlaces(t *testing.T) {
	places := []int{0, 1, 65535, -1, 65536, math.MinInt, math.MaxInt}
	epochs := []int{1, api.MaxEpoch, 0, -1, api.MaxEpoch + 1, math.MinInt, math.MaxInt}
	for _, e := range kinds() {
		for _, zone := range places {
			for _, off := range places {
				for _, epoch := range epochs {
					f, x := e.Frame(zone, off, epoch, e.First)
					g := frame.Frame{Kind: e.Kind, Zone: zone, Off: off, Epoch: epoch, Seq: e.First, Body: layout(e)}
					right := zone >= 0 && zone < 65536 && off >= 0 && off < 65536 && epoch >= 1 && epoch <= 4294967295
					if right && (f != g || x != api.OK) || !right && (f != frame.Frame{} || x != api.ErrForm) {
						t.Errorf("%d, %d, %d: %+v, %d", zone, off, epoch, f, x)
					}
					if !right {
						unread(t, g)
					}
				}
			}
		}
	}
}

// P4.2: a frame of another kind, or of a body that is no entry's, isn't read.
func TestReadOfWrong(t *testing.T) {
	unread(t, frame.Frame{})
	for _, e := range kinds() {
		was := framed(t, e, e.First)
		for _, kind := range []int{frame.Head, frame.Part, 0, 6, -1, 256 + e.Kind, math.MinInt, math.MaxInt} {
			f := was
			f.Kind = kind
			unread(t, f)
		}
		for i := range was.Body {
			for x := range 256 {
				f := was
				f.Body[i] = byte(x)
				first := 0
				for j := range 6 {
					first |= int(f.Body[j]) << (8 * j)
				}
				if !may(f.Kind, f.Body) || f.Seq < first || f.Seq > first+int(f.Body[6])-1 {
					unread(t, f)
				} else if y, x := Read(f); x != api.OK || y.First != first || layout(y) != f.Body || y.Kind != f.Kind {
					t.Errorf("%+v: %+v, %d", f, y, x)
				}
			}
		}
	}
}

// P4.2: a block of one byte, of each one.
func TestFill(t *testing.T) {
	for x := range 256 {
		b := Fill(byte(x))
		for i, c := range b {
			if c != byte(x) {
				t.Errorf("%d at %d: %d", x, i, c)
			}
		}
	}
}

// An entry comes through a sector and back.
func TestThroughSectors(t *testing.T) {
	c := crc.New()
	n := noise(9)
	for range 300 {
		e := n.entry()
		s, x := frame.Encode(c, framed(t, e, e.First))
		if x != api.OK {
			t.Fatal(x)
		}
		f, x := frame.At(c, s, 7, 2)
		if x != api.OK {
			t.Fatal(x)
		}
		if y, x := Read(f); y != e || x != api.OK {
			t.Errorf("%+v: %+v, %d", e, y, x)
		}
	}
}

// What is told is its own: a change of it, or of what was handed in, is seen in no later answer.
func TestMemory(t *testing.T) {
	e := data()
	b := bodied(t, e)
	f := framed(t, e, e.First)
	e.Bytes[3] = 99
	was := b
	x, _ := Of(1, b)
	x.Bytes[5], b[20] = 99, 99
	f.Body[30] = 99
	if y, z := Of(1, was); y != data() || z != api.OK || bodied(t, data()) != was {
		t.Errorf("%+v, %d", y, z)
	}
	if y, z := Read(framed(t, data(), data().First)); y != data() || z != api.OK {
		t.Errorf("%+v, %d", y, z)
	}
}
