package zone

import (
	"math"
	"slices"
	"testing"

	"revetment/api"
)

// made is an empty zone of so many sectors.
func made[T any](t *testing.T, size int) *Zone[T] {
	t.Helper()
	z, e := New[T](size)
	if e != api.OK || z == nil {
		t.Fatalf("a zone of %d: error %d", size, e)
	}
	return z
}

// filled is a zone of so many sectors, to which the letters of a text were appended; the first safe ones are safe.
func filled(t *testing.T, size, safe int, letters string) *Zone[string] {
	t.Helper()
	z := made[string](t, size)
	for i := range letters {
		if i == safe {
			z.Flush()
		}
		if off, e := z.Append(letters[i : i+1]); off != i || e != api.OK {
			t.Fatalf("%q: the letter %d comes to %d, error %d", letters, i, off, e)
		}
	}
	if safe == len(letters) {
		z.Flush()
	}
	return z
}

// text is all sectors of a zone in one.
func text(z *Zone[string]) string {
	s := ""
	for _, x := range z.All() {
		s += x
	}
	return s
}

// hold holds a zone to its state, its sectors, and how many are safe.
func hold(t *testing.T, z *Zone[string], state int, letters string, safe int, what ...any) {
	t.Helper()
	if z.State() != state || text(z) != letters || z.Len() != len(letters) || z.Safe() != safe {
		t.Errorf("%v: state %d, %q (%d), %d safe; want %d, %q (%d), %d", what, z.State(), text(z), z.Len(), z.Safe(), state, letters, len(letters), safe)
	}
}

// same is a text itself.
func same(s string) string { return s }

// far are numbers that nothing here has.
func far() []int {
	return []int{-1, -2, -64, 65, 66, 128, 1 << 31, 1 << 32, 1<<32 + 1, math.MaxInt, math.MaxInt - 1, math.MinInt, math.MinInt + 1}
}

// P6.1: the states have the chapter's numbers.
func TestStates(t *testing.T) {
	if l := []int{Empty, Open, Full, ReadOnly, Offline}; !slices.Equal(l, []int{0, 1, 2, 3, 4}) {
		t.Error(l)
	}
}

// P6.1: all sizes that may be, and such as may not.
func TestNew(t *testing.T) {
	for size := 1; size <= 64; size++ {
		z := made[string](t, size)
		hold(t, z, Empty, "", 0, "new", size)
		for i := range size {
			state := Open
			if i == size-1 {
				state = Full
			}
			if off, e := z.Append("x"); off != i || e != api.OK || z.State() != state || z.Len() != i+1 || z.Safe() != 0 {
				t.Errorf("a zone of %d: the sector %d comes to %d, error %d, state %d, %d there, %d safe", size, i, off, e, z.State(), z.Len(), z.Safe())
			}
		}
		if off, e := z.Append("y"); off != 0 || e != api.ErrFull || z.Len() != size {
			t.Errorf("a full zone of %d: %d, error %d, %d there", size, off, e, z.Len())
		}
	}
	for _, size := range append(far(), 0) {
		if z, e := New[string](size); z != nil || e != api.ErrRange {
			t.Errorf("a zone of %d: error %d", size, e)
		}
	}
}

// P6.1: each sector is read at its place, and there is nothing beside them.
func TestRead(t *testing.T) {
	z := filled(t, 5, 1, "abc")
	for off, want := range []string{"a", "b", "c"} {
		if x, e := z.Read(off); x != want || e != api.OK {
			t.Errorf("%d: %q, error %d", off, x, e)
		}
	}
	for _, off := range append(far(), 3, 4, 5) {
		if x, e := z.Read(off); x != "" || e != api.ErrRead {
			t.Errorf("%d: %q, error %d", off, x, e)
		}
	}
	if x, e := made[string](t, 5).Read(0); x != "" || e != api.ErrRead {
		t.Errorf("an empty one: %q, error %d", x, e)
	}
	hold(t, z, Open, "abc", 1)
}

// P6.1: a reset zone is as a new one, from whichever state, and may be filled again.
func TestReset(t *testing.T) {
	for _, x := range []struct {
		letters string
		safe    int
		finish  bool
	}{{"", 0, false}, {"a", 0, false}, {"ab", 2, false}, {"abc", 1, false}, {"abc", 3, false}, {"", 0, true}, {"ab", 1, true}, {"abc", 3, true}} {
		z := filled(t, 3, x.safe, x.letters)
		if x.finish {
			z.Finish()
		}
		if e := z.Reset(); e != api.OK {
			t.Errorf("%v: error %d", x, e)
		}
		hold(t, z, Empty, "", 0, x)
		if s, e := z.Read(0); s != "" || e != api.ErrRead {
			t.Errorf("%v: %q, error %d", x, s, e)
		}
		z.Append("x")
		hold(t, z, Open, "x", 0, x)
		z.Crash(0)
		hold(t, z, Empty, "", 0, x)
		for i, s := range []string{"p", "q", "r"} {
			if off, e := z.Append(s); off != i || e != api.OK {
				t.Errorf("%v: %q comes to %d, error %d", x, s, off, e)
			}
		}
		hold(t, z, Full, "pqr", 0, x)
	}
}

// P6.1: a finished zone is full, whatever room there is, and keeps its sectors.
func TestFinish(t *testing.T) {
	for _, letters := range []string{"", "a", "ab", "abc"} {
		z := filled(t, 3, len(letters)/2, letters)
		for range 2 {
			if e := z.Finish(); e != api.OK {
				t.Errorf("%q: error %d", letters, e)
			}
			hold(t, z, Full, letters, len(letters)/2)
			if off, e := z.Append("x"); off != 0 || e != api.ErrFull {
				t.Errorf("%q: %d, error %d", letters, off, e)
			}
		}
		hold(t, z, Full, letters, len(letters)/2)
		if len(letters) > 0 {
			if s, e := z.Read(0); s != "a" || e != api.OK {
				t.Errorf("%q: %q, error %d", letters, s, e)
			}
		}
	}
}

// P6.1: a failed zone tells its own error ahead of all others, and nothing changes; what is there is read, till it is Offline.
func TestFailed(t *testing.T) {
	for state, want := range map[int]api.Errno{ReadOnly: api.ErrZone, Offline: api.ErrOffline} {
		for _, letters := range []string{"", "a", "abc"} {
			for _, finish := range []bool{false, true} {
				z := filled(t, 3, len(letters)/2, letters)
				if finish {
					z.Finish()
				}
				z.Fail(state)
				hold(t, z, state, letters, len(letters)/2)
				if off, e := z.Append("x"); off != 0 || e != want {
					t.Errorf("%d %q: an Append tells %d, error %d", state, letters, off, e)
				}
				if e := z.Reset(); e != want {
					t.Errorf("%d %q: a Reset tells %d", state, letters, e)
				}
				if e := z.Finish(); e != want {
					t.Errorf("%d %q: a Finish tells %d", state, letters, e)
				}
				hold(t, z, state, letters, len(letters)/2)
				holdReads(t, z, letters)
			}
		}
	}
}

// holdReads holds what is read of a failed zone, at sectors that are there and such as are not.
func holdReads(t *testing.T, z *Zone[string], letters string) {
	t.Helper()
	for off := -1; off <= 3; off++ {
		want, err := "", api.ErrRead
		if off >= 0 && off < len(letters) {
			want, err = letters[off:off+1], api.OK
		}
		if z.State() == Offline {
			want, err = "", api.ErrOffline
		}
		if x, e := z.Read(off); x != want || e != err {
			t.Errorf("state %d, %q at %d: %q, error %d; want %q, %d", z.State(), letters, off, x, e, want, err)
		}
	}
}

// P6.2: what is flushed is safe, what comes behind it isn't, till the next Flush.
func TestFlush(t *testing.T) {
	z := filled(t, 4, 0, "")
	z.Flush()
	hold(t, z, Empty, "", 0)
	z.Append("a")
	z.Append("b")
	hold(t, z, Open, "ab", 0)
	z.Flush()
	hold(t, z, Open, "ab", 2)
	z.Append("c")
	hold(t, z, Open, "abc", 2)
	z.Append("d")
	z.Flush()
	z.Flush()
	hold(t, z, Full, "abcd", 4)
	for _, state := range []int{ReadOnly, Offline} {
		z := filled(t, 4, 1, "abc")
		z.Fail(state)
		z.Flush()
		hold(t, z, state, "abc", 3, "flushed behind its failure")
	}
}

// P6.2: of what isn't safe the first ones stay, and all that stay are safe: the chapter's example first.
func TestCrash(t *testing.T) {
	for _, x := range []struct {
		letters    string
		safe, keep int
		want       string
		state      int
	}{
		{"abc", 2, 0, "ab", Open},
		{"abc", 2, 1, "abc", Open},
		{"abc", 2, 2, "abc", Open},
		{"abc", 2, -1, "ab", Open},
		{"abc", 0, 0, "", Empty},
		{"abc", 0, -3, "", Empty},
		{"abc", 0, math.MinInt, "", Empty},
		{"abc", 0, 1, "a", Open},
		{"abc", 0, 2, "ab", Open},
		{"abc", 0, math.MaxInt, "abc", Open},
		{"abc", 3, 0, "abc", Open},
		{"abc", 3, 5, "abc", Open},
		{"abcd", 1, 2, "abc", Open},
		{"abcd", 1, 3, "abcd", Full},
		{"abcd", 1, 4, "abcd", Full},
		{"abcd", 1, math.MaxInt, "abcd", Full},
		{"abcd", 3, math.MaxInt - 1, "abcd", Full},
		{"abcd", 4, 0, "abcd", Full},
		{"abcd", 4, math.MinInt, "abcd", Full},
		{"abcd", 0, 0, "", Empty},
		{"", 0, 0, "", Empty},
		{"", 0, 7, "", Empty},
	} {
		z := filled(t, 4, x.safe, x.letters)
		z.Crash(x.keep)
		hold(t, z, x.state, x.want, len(x.want), x)
		z.Crash(0)
		hold(t, z, x.state, x.want, len(x.want), x, "again")
		holdGoesOn(t, z, x.want)
	}
}

// holdGoesOn holds a zone of four sectors to be filled on behind a crash; what was lost is gone for good.
func holdGoesOn(t *testing.T, z *Zone[string], letters string) {
	t.Helper()
	if x, e := z.Read(len(letters)); x != "" || e != api.ErrRead {
		t.Errorf("%q: behind it %q, error %d", letters, x, e)
	}
	for i := len(letters); i < 4; i++ {
		if off, e := z.Append("x"); off != i || e != api.OK {
			t.Errorf("%q: %d, error %d; want %d", letters, off, e, i)
		}
	}
	if off, e := z.Append("y"); off != 0 || e != api.ErrFull {
		t.Errorf("%q: %d, error %d", letters, off, e)
	}
	hold(t, z, Full, letters+"xxxx"[len(letters):], len(letters))
}

// P6.2: a crash leaves a finished zone full, whatever stays, and it is finished still, till it is reset.
func TestCrashOfFinished(t *testing.T) {
	for _, x := range []struct {
		letters    string
		safe, keep int
		want       string
	}{{"", 0, 0, ""}, {"ab", 0, 0, ""}, {"ab", 1, 0, "a"}, {"ab", 1, 9, "ab"}, {"abc", 0, 2, "ab"}, {"abc", 2, -1, "ab"}} {
		z := filled(t, 3, x.safe, x.letters)
		z.Finish()
		for range 2 {
			z.Crash(x.keep)
			hold(t, z, Full, x.want, len(x.want), x)
		}
		if off, e := z.Append("x"); off != 0 || e != api.ErrFull {
			t.Errorf("%v: %d, error %d", x, off, e)
		}
		z.Reset()
		z.Append("x")
		z.Crash(1)
		hold(t, z, Open, "x", 1, x)
	}
}

// P6.2: a failed zone loses what isn't safe, too, and stays failed.
func TestCrashOfFailed(t *testing.T) {
	for _, state := range []int{ReadOnly, Offline} {
		for _, letters := range []string{"", "ab", "abc"} {
			z := filled(t, 3, len(letters)/2, letters)
			z.Fail(state)
			z.Crash(0)
			hold(t, z, state, letters[:len(letters)/2], len(letters)/2)
			holdReads(t, z, letters[:len(letters)/2])
			z = filled(t, 3, len(letters)/2, letters)
			z.Fail(state)
			z.Crash(1)
			n := min(len(letters)/2+1, len(letters))
			hold(t, z, state, letters[:n], n)
		}
	}
}

// P6.2: a zone fails from whichever state, an Offline one never comes back, and of other states nothing happens.
func TestFail(t *testing.T) {
	for _, letters := range []string{"", "a", "abc"} {
		z := filled(t, 3, 0, letters)
		before := z.State()
		for _, state := range append(far(), Empty, Open, Full, 5) {
			z.Fail(state)
			hold(t, z, before, letters, 0, state)
		}
		z.Fail(ReadOnly)
		for _, state := range append(far(), Empty, Open, Full, ReadOnly, 5) {
			z.Fail(state)
			hold(t, z, ReadOnly, letters, 0, state)
		}
		z.Fail(Offline)
		for _, state := range append(far(), Empty, Open, Full, ReadOnly, Offline, 5) {
			z.Fail(state)
			hold(t, z, Offline, letters, 0, state)
		}
		z = filled(t, 3, 0, letters)
		z.Fail(Offline)
		hold(t, z, Offline, letters, 0, "at once")
	}
}

// P6.3: one sector is changed, in whichever state, by what f tells of it; all else stays.
func TestChange(t *testing.T) {
	twice := func(s string) string { return s + s }
	for name, prepare := range map[string]func(*Zone[string]){
		"open":     func(*Zone[string]) {},
		"finished": func(z *Zone[string]) { z.Finish() },
		"full":     func(z *Zone[string]) { z.Append("d") },
		"readonly": func(z *Zone[string]) { z.Fail(ReadOnly) },
		"offline":  func(z *Zone[string]) { z.Fail(Offline) },
	} {
		for off := range 3 {
			z := filled(t, 4, 1, "abc")
			prepare(z)
			state, want := z.State(), ""
			for i, x := range z.All() {
				if i == off {
					x += x
				}
				want += x
			}
			if e := z.Change(off, twice); e != api.OK {
				t.Errorf("%s: %d: error %d", name, off, e)
			}
			if text(z) != want || z.State() != state || z.Safe() != 1 || z.Len() != len(want)-1 {
				t.Errorf("%s: %d: %q, state %d, %d safe, %d there; want %q", name, off, text(z), z.State(), z.Safe(), z.Len(), want)
			}
			if x, e := z.Read(off); state != Offline && (x != "abc"[off:off+1]+"abc"[off:off+1] || e != api.OK) {
				t.Errorf("%s: %d: %q is read, error %d", name, off, x, e)
			}
		}
	}
}

// P6.3: where there is no sector, f isn't asked; where there is one, it is asked of it alone.
func TestChangeAsks(t *testing.T) {
	z := filled(t, 4, 2, "abc")
	asked := ""
	f := func(s string) string { asked += s; return "z" }
	for _, state := range []int{Open, ReadOnly, Offline} {
		z.Fail(state)
		for _, off := range append(far(), 3, 4) {
			if e := z.Change(off, f); e != api.ErrRead {
				t.Errorf("%d: error %d", off, e)
			}
			if e := z.Change(off, nil); e != api.ErrRead {
				t.Errorf("%d by nothing: error %d", off, e)
			}
		}
		hold(t, z, state, "abc", 2)
	}
	if asked != "" {
		t.Errorf("asked of %q", asked)
	}
	if e := z.Change(1, f); e != api.OK || asked != "b" {
		t.Errorf("asked of %q, error %d", asked, e)
	}
	hold(t, z, Offline, "azc", 2)
	if e := made[string](t, 4).Change(0, same); e != api.ErrRead {
		t.Errorf("an empty one: error %d", e)
	}
}

// P6.3: what is changed goes through a crash, and isn't kept by what comes to its place later.
func TestChangeStays(t *testing.T) {
	z := filled(t, 3, 1, "abc")
	z.Change(0, func(string) string { return "x" })
	z.Change(2, func(string) string { return "y" })
	z.Crash(2)
	hold(t, z, Full, "xby", 3)
	z.Reset()
	z.Append("c")
	hold(t, z, Open, "c", 0)
}

// P1: a function that is nil, or that panics, lets no Change panic, and the sector stays.
func TestChangeNeverPanics(t *testing.T) {
	for _, f := range []func(string) string{nil, func(string) string { panic("no") }, func(s string) string { return s[9:] }} {
		z := filled(t, 3, 1, "abc")
		for off := -1; off <= 3; off++ {
			z.Change(off, f)
		}
		hold(t, z, Full, "abc", 1)
	}
}

// P6.3: all sectors come with their places, as far as they are asked, again from the beginning, and in whichever state.
func TestAll(t *testing.T) {
	z := filled(t, 4, 1, "abc")
	all := z.All()
	for _, state := range []int{Open, Full, ReadOnly, Offline} {
		z.Fail(state)
		if state == Full {
			z.Finish()
		}
		for many := 1; many <= 4; many++ {
			got := ""
			for off, x := range all {
				if off != len(got) {
					t.Errorf("%q comes at %d", x, off)
				}
				if got += x; len(got) == many {
					break
				}
			}
			if got != "abc"[:min(many, 3)] {
				t.Errorf("state %d: of %d asked %q came", state, many, got)
			}
		}
	}
	asked := 0
	all(func(int, string) bool { asked++; return false })
	if asked != 1 {
		t.Errorf("%d came, one was asked", asked)
	}
	for range made[string](t, 4).All() {
		t.Error("an empty zone has something")
	}
}

// P6.1 to P6.3: sectors are of any kind, as values of their own: what was told, or handed in, changes none.
func TestKinds(t *testing.T) {
	z := made[[3]byte](t, 2)
	b := [3]byte{1, 2, 3}
	z.Append(b)
	b[0] = 9
	x, e := z.Read(0)
	if x != [3]byte{1, 2, 3} || e != api.OK {
		t.Errorf("%v, error %d", x, e)
	}
	x[1] = 9
	for _, y := range z.All() {
		y[2] = 9
	}
	z.Change(0, func(y [3]byte) [3]byte { y[0] ^= 0xf0; return y })
	if x, e = z.Read(0); x != [3]byte{0xf1, 2, 3} || e != api.OK {
		t.Errorf("%v, error %d", x, e)
	}
	if x, e = z.Read(1); x != [3]byte{} || e != api.ErrRead {
		t.Errorf("%v, error %d", x, e)
	}
	z.Fail(Offline)
	if x, e = z.Read(0); x != [3]byte{} || e != api.ErrOffline {
		t.Errorf("%v, error %d", x, e)
	}
	n := made[int](t, 1)
	n.Append(0)
	if v, e := n.Read(0); v != 0 || e != api.OK || n.State() != Full {
		t.Errorf("%d, error %d, state %d", v, e, n.State())
	}
}

// P6.1: two zones have nothing in common.
func TestApart(t *testing.T) {
	z, y := filled(t, 3, 1, "ab"), filled(t, 3, 2, "pq")
	z.Append("c")
	z.Change(0, func(string) string { return "x" })
	z.Fail(ReadOnly)
	hold(t, y, Open, "pq", 2)
	y.Reset()
	hold(t, z, ReadOnly, "xbc", 1)
}
