package queue

import (
	"slices"
	"testing"

	"revetment/api"
)

// model is a queue told once more, word by word as the chapter has it: a list, whose things move up when the first one goes.
type model struct {
	room int
	list []int
}

func (m *model) put(x int) api.Errno {
	if len(m.list) == m.room {
		return api.ErrFull
	}
	m.list = append(m.list, x)
	return api.OK
}

func (m *model) take() (int, api.Errno) {
	if len(m.list) == 0 {
		return 0, api.ErrNone
	}
	x := m.list[0]
	m.list = slices.Delete(m.list, 0, 1)
	return x, api.OK
}

func (m *model) keep(f func(int) bool) int {
	var stay []int
	for _, x := range m.list {
		if f(x) {
			stay = append(stay, x)
		}
	}
	went := len(m.list) - len(stay)
	m.list = stay
	return went
}

// answer is what a step tells.
type answer struct {
	v int
	e api.Errno
}

// steps is how many steps there are that step takes.
const steps = 7

// step takes the step i to a queue and to its model, x being what is put, and tells what both answer.
func step(q *Queue[int], m *model, i, x int) (a, b answer) {
	switch i {
	case 0, 1:
		a.e, b.e = q.Put(x), m.put(x)
	case 2:
		a.v, a.e = q.Take()
		b.v, b.e = m.take()
	case 3, 4, 5:
		f := []func(int) bool{
			func(y int) bool { return y%2 == 0 },
			func(y int) bool { return y != x-1 },
			func(y int) bool { return y%3 != 0 },
		}[i-3]
		a.v, b.v = q.Keep(f), m.keep(f)
	case 6:
		for p, y := range q.All() {
			a.v = 100*p + y
			if p == 1 {
				break
			}
		}
		for p, y := range m.list[:min(len(m.list), 2)] {
			b.v = 100*p + y
		}
	}
	return a, b
}

// walk takes a queue through steps, one by one, and holds it to its model behind each; then what stays comes out in order.
func walk(t *testing.T, room int, l []int) {
	t.Helper()
	q, m := made[int](t, room), &model{room: room}
	for i, s := range l {
		a, b := step(q, m, s, i+1)
		if a != b || q.Len() != len(m.list) || q.Room() != room {
			t.Fatalf("a queue of %d, the steps %v: %v, want %v; %d there, want %v", room, l[:i+1], a, b, q.Len(), m.list)
		}
		if i%3 == 0 {
			hold(t, q, room, m.list, l[:i+1])
		}
	}
	hold(t, q, room, m.list, l)
	if x := take(t, q, q.Len()); !slices.Equal(x, m.list) {
		t.Fatalf("a queue of %d, the steps %v: %v taken, want %v", room, l, x, m.list)
	}
}

// P9.1, P9.2: whatever is done in six steps, small queues answer as the model does.
func TestAllSteps(t *testing.T) {
	l := make([]int, 6)
	for n := range steps * steps * steps * steps * steps * steps {
		for i := range l {
			l[i] = n % steps
			n /= steps
		}
		for room := 1; room <= 3; room++ {
			walk(t, room, l)
		}
	}
}

// P9.1, P9.2: long rows of steps, in which putting and taking come more often, at many rooms.
func TestLongRows(t *testing.T) {
	word := uint64(88172645463325252)
	below := func(many int) int {
		word ^= word << 13
		word ^= word >> 7
		word ^= word << 17
		return int(word >> 1 % uint64(many))
	}
	often := []int{0, 0, 0, 0, 0, 1, 1, 1, 1, 2, 2, 2, 2, 2, 2, 3, 4, 4, 4, 5, 6, 6}
	for room := 1; room <= 40; room++ {
		for range 20 {
			l := make([]int, 300)
			for i := range l {
				l[i] = often[below(len(often))]
			}
			walk(t, room, l)
		}
	}
}
