package queue

import (
	"math"
	"slices"
	"strings"
	"testing"

	"revetment/api"
)

// made is an empty queue of so much room.
func made[T any](t *testing.T, room int) *Queue[T] {
	t.Helper()
	q, e := New[T](room)
	if e != api.OK || q == nil {
		t.Fatalf("a queue of %d: error %d", room, e)
	}
	return q
}

// put puts things into a queue, which has room for them.
func put[T any](t *testing.T, q *Queue[T], xs ...T) {
	t.Helper()
	for _, x := range xs {
		if e := q.Put(x); e != api.OK {
			t.Fatalf("%v to %d of %d: error %d", x, q.Len(), q.Room(), e)
		}
	}
}

// turned is a queue that has some things, of which the first lies so far from where the queue's room begins.
func turned[T any](t *testing.T, room, by int, xs ...T) *Queue[T] {
	t.Helper()
	q := made[T](t, room)
	var none T
	for range by {
		put(t, q, none)
		take(t, q, 1)
	}
	put(t, q, xs...)
	return q
}

// take takes so many things, which are there.
func take[T any](t *testing.T, q *Queue[T], many int) []T {
	t.Helper()
	var l []T
	for range many {
		x, e := q.Take()
		if e != api.OK {
			t.Fatalf("of %d things the one at %d: error %d", many, len(l), e)
		}
		l = append(l, x)
	}
	return l
}

// things is all that a queue has, whose places are held to what they must be.
func things[T any](t *testing.T, q *Queue[T]) []T {
	t.Helper()
	var l []T
	for i, x := range q.All() {
		if i != len(l) {
			t.Errorf("%v comes with the place %d, not %d", x, i, len(l))
		}
		l = append(l, x)
	}
	return l
}

// hold holds a queue to its room and its things, twice: looking at it changes nothing.
func hold[T comparable](t *testing.T, q *Queue[T], room int, want []T, what ...any) {
	t.Helper()
	for range 2 {
		if l := things(t, q); !slices.Equal(l, want) || q.Len() != len(want) || q.Room() != room {
			t.Fatalf("%v: has %v (%d) of %d, want %v of %d", what, l, q.Len(), q.Room(), want, room)
		}
	}
}

// far are numbers of things that no queue has.
func far() []int {
	return []int{0, -1, -2, -4096, 1<<12 + 1, 1<<12 + 2, 1 << 13, 1 << 16, 1 << 31, 1 << 32, 1<<32 + 1, math.MaxInt, math.MaxInt - 1, math.MinInt, math.MinInt + 1}
}

// P9.1: all rooms that may be, and such as may not.
func TestNew(t *testing.T) {
	for room := 1; room <= 1<<12; room++ {
		hold(t, made[int](t, room), room, nil, "new")
	}
	for _, room := range far() {
		if q, e := New[int](room); q != nil || e != api.ErrRange {
			t.Errorf("%d: %v, error %d", room, q, e)
		}
		if q, e := New[func()](room); q != nil || e != api.ErrRange {
			t.Errorf("%d, of functions: %v, error %d", room, q, e)
		}
	}
}

// P9.1: as much as the room, and no more, goes in, and comes out in order; then nothing does. So it is again and again.
func TestRoom(t *testing.T) {
	for _, room := range []int{1, 2, 3, 7, 64, 4095, 1 << 12} {
		q := made[int](t, room)
		for round := range 3 {
			for i := range room {
				if q.Len() != i || q.Room() != room {
					t.Fatalf("%d of %d; want %d of %d", q.Len(), q.Room(), i, room)
				}
				put(t, q, 10*i+round)
			}
			for range 3 {
				if e := q.Put(-1); e != api.ErrFull || q.Len() != room || q.Room() != room {
					t.Fatalf("one more of %d: error %d, %d there", room, e, q.Len())
				}
			}
			for i := range room {
				if x := take(t, q, 1)[0]; x != 10*i+round || q.Len() != room-1-i || q.Room() != room {
					t.Fatalf("%d comes at %d of %d, %d stay", x, i, room, q.Len())
				}
			}
			for range 3 {
				if x, e := q.Take(); x != 0 || e != api.ErrNone || q.Len() != 0 {
					t.Fatalf("nothing of %d: %d, error %d, %d there", room, x, e, q.Len())
				}
			}
		}
	}
}

// P9.1: the chapter's example.
func TestExample(t *testing.T) {
	q := made[int](t, 2)
	put(t, q, 1, 2)
	if x, e := q.Take(); x != 1 || e != api.OK {
		t.Errorf("%d, error %d", x, e)
	}
	hold(t, q, 2, []int{2})
}

// P9.1: what is refused changes nothing, wherever the things lie.
func TestRefused(t *testing.T) {
	for by := range 4 {
		q := turned(t, 3, by, "a", "b", "c")
		if e := q.Put("d"); e != api.ErrFull {
			t.Errorf("turned by %d: error %d", by, e)
		}
		hold(t, q, 3, []string{"a", "b", "c"}, "turned by", by)
		take(t, q, 3)
		if x, e := q.Take(); x != "" || e != api.ErrNone {
			t.Errorf("turned by %d: %q, error %d", by, x, e)
		}
		put(t, q, "e")
		hold(t, q, 3, []string{"e"}, "turned by", by)
	}
}

// P9.1: a queue that is never empty and never full gives out what came first, wherever it lies.
func TestOrder(t *testing.T) {
	for room := 2; room <= 9; room++ {
		for many := 1; many < room; many++ {
			q := made[int](t, room)
			for i := range many {
				put(t, q, i)
			}
			for i := range 4 * room {
				put(t, q, many+i)
				if x := take(t, q, 1)[0]; x != i || q.Len() != many {
					t.Fatalf("%d of %d: %d comes at %d, %d stay", many, room, x, i, q.Len())
				}
			}
		}
	}
}

// P9.1, P9.2: things that are zero values, or alike, are things.
func TestNoughts(t *testing.T) {
	q := made[int](t, 3)
	put(t, q, 0, 0, 0)
	hold(t, q, 3, []int{0, 0, 0})
	if n := q.Keep(func(x int) bool { return x == 0 }); n != 0 {
		t.Errorf("%d went", n)
	}
	if x, e := q.Take(); x != 0 || e != api.OK {
		t.Errorf("%d, error %d", x, e)
	}
	hold(t, q, 3, []int{0, 0})

	p := made[*int](t, 2)
	put(t, p, nil, nil)
	if x, e := p.Take(); x != nil || e != api.OK || p.Len() != 1 {
		t.Errorf("%v, error %d, %d there", x, e, p.Len())
	}
	if n := p.Keep(func(x *int) bool { return x == nil }); n != 0 || p.Len() != 1 {
		t.Errorf("%d went, %d there", n, p.Len())
	}

	s := made[struct{}](t, 2)
	put(t, s, struct{}{}, struct{}{})
	if e := s.Put(struct{}{}); e != api.ErrFull || len(things(t, s)) != 2 {
		t.Errorf("error %d, %d there", e, s.Len())
	}
	take(t, s, 2)
	if _, e := s.Take(); e != api.ErrNone {
		t.Errorf("error %d", e)
	}
}

// P9.1, P9.2: things of any type, also such as can't be held against each other, and such as share memory, which are told as those themselves.
func TestTypes(t *testing.T) {
	a := made[any](t, 4)
	put(t, a, any(1), any("x"), nil, any([]int{2}))
	if l := things(t, a); len(l) != 4 || l[0] != 1 || l[1] != "x" || l[2] != nil || l[3].([]int)[0] != 2 {
		t.Errorf("%v", l)
	}
	f := made[func() int](t, 2)
	put(t, f, func() int { return 5 }, nil)
	if n := f.Keep(func(g func() int) bool { return g != nil }); n != 1 {
		t.Errorf("%d went", n)
	}
	if g := take(t, f, 1)[0]; g() != 5 {
		t.Errorf("%d", g())
	}
	s := made[[]byte](t, 2)
	put(t, s, []byte("ab"), nil)
	if l := take(t, s, 2); string(l[0]) != "ab" || l[1] != nil {
		t.Errorf("%q", l)
	}
	v := 7
	p := made[*int](t, 1)
	put(t, p, &v)
	if x := take(t, p, 1)[0]; x != &v {
		t.Errorf("%v, not %v", x, &v)
	}
	n := made[float64](t, 2)
	put(t, n, math.NaN(), 1)
	if l := take(t, n, 2); !math.IsNaN(l[0]) || l[1] != 1 {
		t.Errorf("%v", l)
	}
}

// great is a thing that a channel would not take.
type great [1 << 17]byte

// P9.1, P9.2: things that are greater than any that a channel takes.
func TestGreat(t *testing.T) {
	q := made[great](t, 1<<12)
	for i := range byte(3) {
		put(t, q, great{0: i, 1<<17 - 1: i + 1})
	}
	if n := q.Keep(func(x great) bool { return x[0] != 1 }); n != 1 || q.Len() != 2 {
		t.Errorf("%d went, %d stay", n, q.Len())
	}
	for i, x := range q.All() {
		if want := byte(2 * i); x[0] != want || x[1<<17-1] != want+1 {
			t.Errorf("%d, %d", x[0], x[1<<17-1])
		}
	}
	if x, e := q.Take(); x != (great{1<<17 - 1: 1}) || e != api.OK {
		t.Errorf("error %d", e)
	}
	take(t, q, 1)
	if x, e := q.Take(); x != (great{}) || e != api.ErrNone {
		t.Errorf("error %d", e)
	}
}

// P9.1, P9.2: things are values of the queue's own: what was handed in, or told, changes none.
func TestValues(t *testing.T) {
	q := made[[3]byte](t, 2)
	b := [3]byte{1, 2, 3}
	put(t, q, b, b)
	b[0] = 9
	for _, x := range q.All() {
		x[1] = 9
	}
	q.Keep(func(x [3]byte) bool { x[2] = 9; return true })
	hold(t, q, 2, [][3]byte{{1, 2, 3}, {1, 2, 3}})
	x := take(t, q, 1)[0]
	x[0] = 9
	hold(t, q, 2, [][3]byte{{1, 2, 3}})
}

// P9.2: all come with their places, as far as they are asked, again from the beginning; they stay, wherever the asking ended and wherever they lie.
func TestAll(t *testing.T) {
	for by := range 5 {
		for many := range 5 {
			want := []string{"a", "b", "c", "d"}[:many]
			q := turned(t, 4, by, want...)
			all := q.All()
			for asked := 1; asked <= 5; asked++ {
				var got []string
				for i, x := range all {
					if i != len(got) {
						t.Errorf("%q comes at %d", x, i)
					}
					if got = append(got, x); len(got) == asked {
						break
					}
				}
				if !slices.Equal(got, want[:min(asked, many)]) {
					t.Errorf("%d there, turned by %d: of %d asked %v came", many, by, asked, got)
				}
				hold(t, q, 4, want, "turned by", by, "asked", asked)
			}
			if l := take(t, q, many); !slices.Equal(l, want) {
				t.Errorf("turned by %d: %v taken, want %v", by, l, want)
			}
		}
	}
}

// P9.2: no more come than are asked for.
func TestAsked(t *testing.T) {
	q := made[string](t, 4)
	put(t, q, "a", "b", "c")
	for many := 1; many <= 4; many++ {
		asked := 0
		q.All()(func(int, string) bool { asked++; return asked < many })
		if asked != min(many, 3) {
			t.Errorf("%d came, %d were asked", asked, many)
		}
		hold(t, q, 4, []string{"a", "b", "c"})
	}
}

// P9.2: an empty queue has nothing, and what comes is what is there when it is gone through.
func TestAllLater(t *testing.T) {
	q := made[int](t, 3)
	all := q.All()
	for range all {
		t.Error("an empty queue has something")
	}
	put(t, q, 1, 2)
	take(t, q, 1)
	put(t, q, 3)
	var l []int
	for _, x := range all {
		l = append(l, x)
	}
	if !slices.Equal(l, []int{2, 3}) {
		t.Errorf("%v", l)
	}
	l[0] = 9
	hold(t, q, 3, []int{2, 3})
}

// P9.2: while all are gone through, the queue is whole: it may be looked at, and gone through once more.
func TestAllWithin(t *testing.T) {
	q := turned(t, 4, 2, 1, 2, 3)
	sum, times := 0, 0
	for i, x := range q.All() {
		hold(t, q, 4, []int{1, 2, 3}, "at", i)
		for j, y := range q.All() {
			if j > i {
				break
			}
			sum += x * y
			times++
		}
	}
	if sum != 1+2*(1+2)+3*(1+2+3) || times != 6 {
		t.Errorf("%d in %d times", sum, times)
	}
	hold(t, q, 4, []int{1, 2, 3})
}

// P9.2: a loop that panics gets its panic, and the queue is whole behind it.
func TestAllPanics(t *testing.T) {
	q := made[int](t, 3)
	put(t, q, 1, 2, 3)
	func() {
		defer func() {
			if r := recover(); r != "no" {
				t.Errorf("%v", r)
			}
		}()
		for i := range q.All() {
			if i == 1 {
				panic("no")
			}
		}
	}()
	hold(t, q, 3, []int{1, 2, 3})
}

// P9.2: just those stay of which f tells true, in their order: all choices, of all lengths, wherever the things lie.
func TestKeep(t *testing.T) {
	for by := range 6 {
		for many := range 6 {
			for chosen := range 1 << many {
				q := turned[int](t, 5, by)
				var want, asked []int
				for i := range many {
					put(t, q, i)
					if chosen>>i&1 == 1 {
						want = append(want, i)
					}
				}
				n := q.Keep(func(x int) bool { asked = append(asked, x); return chosen>>x&1 == 1 })
				if n != many-len(want) || len(asked) != many {
					t.Fatalf("%d went of %d, want %d; asked of %v", n, many, many-len(want), asked)
				}
				hold(t, q, 5, want, "turned by", by, "of", many)
				if n := q.Keep(func(int) bool { return true }); n != 0 {
					t.Fatalf("%d went, though all may stay", n)
				}
				for i := range 5 - len(want) {
					put(t, q, 10+i)
					want = append(want, 10+i)
				}
				if e := q.Put(99); e != api.ErrFull {
					t.Fatalf("one more: error %d", e)
				}
				if l := take(t, q, 5); !slices.Equal(l, want) {
					t.Fatalf("%v taken, want %v", l, want)
				}
			}
		}
	}
}

// P9.2: the greatest queue, full: each third one stays.
func TestKeepMany(t *testing.T) {
	q := turned[int](t, 1<<12, 1000)
	var want []int
	for i := range 1 << 12 {
		put(t, q, i)
		if i%3 == 0 {
			want = append(want, i)
		}
	}
	if n := q.Keep(func(x int) bool { return x%3 == 0 }); n != 1<<12-len(want) {
		t.Errorf("%d went", n)
	}
	hold(t, q, 1<<12, want)
}

// P9.2: f finds the queue whole, whatever it told before.
func TestKeepWithin(t *testing.T) {
	q := turned(t, 4, 3, 1, 2, 3)
	n := q.Keep(func(x int) bool {
		hold(t, q, 4, []int{1, 2, 3}, "at", x)
		return x == 2
	})
	if n != 2 {
		t.Errorf("%d went", n)
	}
	hold(t, q, 4, []int{2})
}

// P1, P9.2: an f that is nil, or that panics, lets no Keep panic; what it tells nothing of isn't told true of, so it goes.
func TestKeepNeverPanics(t *testing.T) {
	for name, f := range map[string]func(string) bool{
		"nil":    nil,
		"panics": func(string) bool { panic("no") },
		"of nil": func(string) bool { panic(nil) },
		"faults": func(s string) bool { return s[9] == 'x' },
	} {
		q := made[string](t, 3)
		if n := q.Keep(f); n != 0 {
			t.Errorf("%s: %d went of none", name, n)
		}
		put(t, q, "a", "b", "c")
		if n := q.Keep(f); n != 3 {
			t.Errorf("%s: %d went", name, n)
		}
		hold(t, q, 3, nil, name)
	}
	q := made[string](t, 4)
	put(t, q, "aa", "b", "cc", "d")
	if n := q.Keep(func(s string) bool { return s[1:] == s[:1] && s[1] > 0 }); n != 2 {
		t.Errorf("%d went", n)
	}
	hold(t, q, 4, []string{"aa", "cc"})
}

// P1: an f that changes the queue, of which nothing more is promised, lets no call panic or wait.
func TestKeepEnds(t *testing.T) {
	q := made[int](t, 3)
	for name, f := range map[string]func(int) bool{
		"puts":  func(x int) bool { q.Put(x + 10); return true },
		"takes": func(int) bool { q.Take(); return true },
		"keeps": func(x int) bool { q.Keep(func(y int) bool { return y > x }); return true },
	} {
		put(t, q, 1, 2)
		if n := q.Keep(f); n < 0 || q.Len() > 3 {
			t.Errorf("%s: %d went, %d there", name, n, q.Len())
		}
		if l := things(t, q); len(l) != q.Len() {
			t.Errorf("%s: %v come of %d", name, l, q.Len())
		}
		take(t, q, q.Len())
		if x, e := q.Take(); x != 0 || e != api.ErrNone {
			t.Errorf("%s: %d, error %d", name, x, e)
		}
	}
}

// P9.1, P9.2: two queues have nothing in common.
func TestApart(t *testing.T) {
	q, p := made[string](t, 2), made[string](t, 3)
	put(t, q, "a", "b")
	put(t, p, "x")
	q.Keep(func(s string) bool { return s == "b" })
	hold(t, p, 3, []string{"x"})
	take(t, p, 1)
	hold(t, q, 2, []string{"b"})
}

// P9.1, P9.2: the calls on texts, one behind the other.
func TestStory(t *testing.T) {
	q := made[string](t, 3)
	put(t, q, strings.Fields("one two three")...)
	if s := strings.Join(things(t, q), " "); s != "one two three" {
		t.Error(s)
	}
	if n := q.Keep(func(s string) bool { return len(s) == 3 }); n != 1 {
		t.Errorf("%d went", n)
	}
	put(t, q, "four")
	if s := strings.Join(take(t, q, 3), " "); s != "one two four" {
		t.Error(s)
	}
}
