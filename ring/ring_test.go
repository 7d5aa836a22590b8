package ring_test

import (
	"math"
	"math/rand"
	"runtime"
	"slices"
	"testing"
	"weak"

	"cotillion/api"
	"cotillion/ring"
)

// made returns an empty Ring of a capacity that may be.
func made[T any](t *testing.T, room int) *ring.Ring[T] {
	t.Helper()
	r, e := ring.New[T](room)
	if r == nil || e != api.OK {
		t.Fatalf("New(%d) = %v, %d; want a Ring, OK", room, r, e)
	}
	return r
}

// turned returns a Ring with the elements 0 to n-1 that has had others pushed and popped before.
func turned(t *testing.T, room, before, n int) *ring.Ring[int] {
	t.Helper()
	r := made[int](t, room)
	for range before {
		r.Push(-1)
		r.Pop()
	}
	for i := range n {
		if !r.Push(i) {
			t.Fatalf("capacity %d: no Push of element %d", room, i)
		}
	}
	return r
}

// upTo returns the numbers 0 to n-1.
func upTo(n int) []int {
	l := make([]int, n)
	for i := range l {
		l[i] = i
	}
	return l
}

// expect holds all that a Ring tells of itself against the elements that it should have.
func expect(t *testing.T, r *ring.Ring[int], room int, want []int) {
	t.Helper()
	if got := r.All(); !slices.Equal(got, want) {
		t.Fatalf("All() = %v; want %v", got, want)
	}
	if r.Len() != len(want) || r.Room() != room-len(want) {
		t.Fatalf("Len() = %d, Room() = %d; want %d, %d", r.Len(), r.Room(), len(want), room-len(want))
	}
	head, ok := r.Head()
	if ok != (len(want) > 0) || ok && head != want[0] || !ok && head != 0 {
		t.Fatalf("Head() = %d, %t; the elements are %v", head, ok, want)
	}
}

func TestP2_1NewOfNoCapacity(t *testing.T) {
	for _, room := range []int{-1, -2, math.MinInt, 1<<16 + 1, 1 << 17, 1 << 32, math.MaxInt} {
		if r, e := ring.New[int](room); r != nil || e != api.ErrArg {
			t.Errorf("New(%d) = %v, %d; want nil, ErrArg", room, r, e)
		}
	}
}

func TestP2_1NewHoldsItsCapacity(t *testing.T) {
	for _, room := range []int{0, 1, 2, 3, 32, 1000, 1<<16 - 1, 1 << 16} {
		r := made[int](t, room)
		expect(t, r, room, nil)
		for i := range room {
			if !r.Push(i) {
				t.Fatalf("capacity %d: no Push of element %d", room, i)
			}
		}
		for range 2 {
			if r.Push(-1) {
				t.Fatalf("capacity %d: Push to a full Ring", room)
			}
			expect(t, r, room, upTo(room))
		}
	}
}

func TestP2_1Example(t *testing.T) {
	r := made[int](t, 2)
	one, two, three := r.Push(1), r.Push(2), r.Push(3)
	if !one || !two || three {
		t.Errorf("Push = %t, %t, %t; want true, true, false", one, two, three)
	}
	if x, ok := r.Pop(); x != 1 || !ok {
		t.Errorf("Pop() = %d, %t; want 1, true", x, ok)
	}
	if !r.Push(4) {
		t.Error("no Push after Pop")
	}
	expect(t, r, 2, []int{2, 4})
}

func TestP2_1Empty(t *testing.T) {
	empty := func(r *ring.Ring[int], room int) {
		t.Helper()
		if x, ok := r.Pop(); x != 0 || ok {
			t.Errorf("Pop() = %d, %t; want 0, false", x, ok)
		}
		for _, at := range []int{-1, 0, 1, math.MinInt, math.MaxInt} {
			if x, ok := r.Remove(at); x != 0 || ok {
				t.Errorf("Remove(%d) = %d, %t; want 0, false", at, x, ok)
			}
		}
		if l := r.Clear(); len(l) != 0 {
			t.Errorf("Clear() = %v; want none", l)
		}
		expect(t, r, room, nil)
	}
	empty(made[int](t, 0), 0)
	empty(made[int](t, 3), 3)
	popped := turned(t, 3, 2, 0)
	empty(popped, 3)
	cleared := turned(t, 3, 2, 3)
	cleared.Clear()
	empty(cleared, 3)
	// W1 holds for every object, so for one that New has not made too.
	empty(new(ring.Ring[int]), 0)
	if new(ring.Ring[int]).Push(1) {
		t.Error("Push to a Ring of no capacity")
	}
}

func TestP2_1PopAndHead(t *testing.T) {
	for before := range 9 {
		r := turned(t, 7, before, 7)
		for i := range 7 {
			expect(t, r, 7, upTo(7)[i:])
			if x, ok := r.Pop(); x != i || !ok {
				t.Fatalf("Pop() = %d, %t; want %d, true", x, ok, i)
			}
		}
		expect(t, r, 7, nil)
	}
}

func TestP2_1Remove(t *testing.T) {
	const room = 6
	for before := range 2 * room {
		for n := range room + 1 {
			for at := range n {
				r := turned(t, room, before, n)
				if x, ok := r.Remove(at); x != at || !ok {
					t.Fatalf("Remove(%d) = %d, %t; want %d, true", at, x, ok, at)
				}
				rest := slices.Delete(upTo(n), at, at+1)
				expect(t, r, room, rest)
				if !r.Push(50) {
					t.Fatal("no Push after Remove")
				}
				expect(t, r, room, append(rest, 50))
			}
			for _, at := range []int{math.MinInt, -n - 1, -1, n, n + 1, room, room + 1, math.MaxInt} {
				r := turned(t, room, before, n)
				if at >= 0 && at < n {
					continue
				}
				if x, ok := r.Remove(at); x != 0 || ok {
					t.Fatalf("Remove(%d) of %d = %d, %t; want 0, false", at, n, x, ok)
				}
				expect(t, r, room, upTo(n))
			}
		}
	}
}

func TestP2_1Clear(t *testing.T) {
	const room = 5
	for before := range 2 * room {
		for n := range room + 1 {
			r := turned(t, room, before, n)
			if l := r.Clear(); !slices.Equal(l, upTo(n)) {
				t.Fatalf("Clear() = %v; want %v", l, upTo(n))
			}
			expect(t, r, room, nil)
			for i := range room {
				r.Push(i)
			}
			if r.Push(room) {
				t.Fatal("Clear changed the capacity")
			}
			expect(t, r, room, upTo(room))
		}
	}
}

func TestP2_1ElementsOfAnyType(t *testing.T) {
	words := made[[]string](t, 2)
	l := []string{"a", "b"}
	words.Push(l)
	words.Push(nil)
	got, ok := words.Pop()
	if !ok || len(got) != 2 || &got[0] != &l[0] {
		t.Error("the data of a slice was copied")
	}
	if got, ok = words.Pop(); !ok || got != nil {
		t.Error("nil did not come back as nil")
	}

	anything := made[any](t, 3)
	anything.Push(map[string]int{"a": 1})
	anything.Push(nil)
	anything.Push(func() int { return 7 })
	if f, ok := anything.Remove(2); !ok || f.(func() int)() != 7 {
		t.Error("a function did not come back")
	}
	if m, ok := anything.Head(); !ok || m.(map[string]int)["a"] != 1 {
		t.Error("a map did not come back")
	}

	nothing := made[struct{}](t, 2)
	if !nothing.Push(struct{}{}) || !nothing.Push(struct{}{}) || nothing.Push(struct{}{}) || len(nothing.All()) != 2 {
		t.Error("elements without a size are not counted")
	}

	msgs := made[api.Msg](t, 2)
	msgs.Push(api.Msg{Event: "go", N: -3})
	if m, ok := msgs.Pop(); !ok || m != (api.Msg{Event: "go", N: -3}) {
		t.Errorf("Pop() = %v, %t", m, ok)
	}
	if m, ok := msgs.Pop(); ok || m != (api.Msg{}) {
		t.Errorf("Pop() of an empty Ring = %v, %t", m, ok)
	}
}

func TestP2_1Nil(t *testing.T) {
	var r *ring.Ring[string]
	if r.Push("a") {
		t.Error("Push = true")
	}
	if x, ok := r.Pop(); x != "" || ok {
		t.Errorf("Pop() = %q, %t", x, ok)
	}
	if x, ok := r.Head(); x != "" || ok {
		t.Errorf("Head() = %q, %t", x, ok)
	}
	for _, at := range []int{-1, 0, 1, math.MaxInt} {
		if x, ok := r.Remove(at); x != "" || ok {
			t.Errorf("Remove(%d) = %q, %t", at, x, ok)
		}
	}
	if len(r.All()) != 0 || len(r.Clear()) != 0 || r.Len() != 0 || r.Room() != 0 {
		t.Error("a nil Ring has elements or room")
	}
}

// list is what a Ring should be like: its capacity and its elements.
type list struct {
	room int
	l    []int
}

func (m *list) push(x int) bool {
	if len(m.l) == m.room {
		return false
	}
	m.l = append(m.l, x)
	return true
}

func (m *list) remove(at int) (int, bool) {
	if at < 0 || at >= len(m.l) {
		return 0, false
	}
	x := m.l[at]
	m.l = slices.Delete(m.l, at, at+1)
	return x, true
}

func (m *list) clear() []int {
	l := m.l
	m.l = nil
	return l
}

// eachStep does random operations on a Ring and on a list, and holds one against the other after each of them.
func eachStep(t *testing.T, seed int64, room, steps int) {
	t.Helper()
	random := rand.New(rand.NewSource(seed))
	r, m := made[int](t, room), list{room: room}
	for k := 1; k <= steps; k++ {
		switch random.Intn(20) {
		default:
			if got, want := r.Push(k), m.push(k); got != want {
				t.Fatalf("capacity %d, step %d: Push = %t; want %t", room, k, got, want)
			}
		case 0:
			if got, want := r.Clear(), m.clear(); !slices.Equal(got, want) {
				t.Fatalf("capacity %d, step %d: Clear() = %v; want %v", room, k, got, want)
			}
		case 1, 2, 3, 4, 5, 6:
			got, ok := r.Pop()
			if want, is := m.remove(0); got != want || ok != is {
				t.Fatalf("capacity %d, step %d: Pop() = %d, %t; want %d, %t", room, k, got, ok, want, is)
			}
		case 7, 8, 9:
			at := random.Intn(room+3) - 1
			got, ok := r.Remove(at)
			if want, is := m.remove(at); got != want || ok != is {
				t.Fatalf("capacity %d, step %d: Remove(%d) = %d, %t; want %d, %t", room, k, at, got, ok, want, is)
			}
		}
		expect(t, r, room, m.l)
	}
}

func TestP2_2LikeAList(t *testing.T) {
	for _, room := range []int{0, 1, 2, 3, 4, 5, 7, 8, 9, 31, 32, 33} {
		for seed := range int64(4) {
			eachStep(t, seed, room, 3000)
		}
	}
}

func TestP2_2InOrderEachOnce(t *testing.T) {
	for _, room := range []int{1, 2, 3, 17, 1 << 16} {
		random := rand.New(rand.NewSource(int64(room)))
		r := made[int](t, room)
		pushed, popped := 0, 0
		for popped < 3*room+20 {
			for range random.Intn(room + 1) {
				if r.Push(pushed) {
					pushed++
				}
			}
			for range random.Intn(room + 1) {
				x, ok := r.Pop()
				if ok != (popped < pushed) || ok && x != popped {
					t.Fatalf("capacity %d: Pop() = %d, %t; want %d", room, x, ok, popped)
				}
				if ok {
					popped++
				}
				if r.Len() != pushed-popped || r.Len()+r.Room() != room {
					t.Fatalf("capacity %d: Len() = %d, Room() = %d", room, r.Len(), r.Room())
				}
			}
		}
	}
}

func TestW6ResultsShareNothing(t *testing.T) {
	const room = 4
	for n := 1; n <= room; n++ {
		r := turned(t, room, 2, n)
		first, second := r.All(), r.All()
		spoil(first)
		expect(t, r, room, upTo(n))
		if !slices.Equal(second, upTo(n)) {
			t.Fatalf("two results share memory: %v", second)
		}
		cleared := r.Clear()
		spoil(second)
		for range room {
			r.Push(70)
		}
		if !slices.Equal(cleared, upTo(n)) {
			t.Fatalf("the result of Clear became %v", cleared)
		}
		spoil(cleared)
		expect(t, r, room, []int{70, 70, 70, 70})
	}
}

// spoil writes to all of a list, and to its unused capacity.
func spoil(l []int) {
	l = l[:cap(l)]
	for i := range l {
		l[i] = -9
	}
}

func TestW7ResultsStayAsTheyAre(t *testing.T) {
	r := turned(t, 3, 1, 3)
	l := r.All()
	r.Remove(1)
	r.Pop()
	r.Push(80)
	r.Push(81)
	if !slices.Equal(l, upTo(3)) {
		t.Errorf("the result of All became %v", l)
	}
}

func TestW8CopyGoesOn(t *testing.T) {
	r := turned(t, 3, 1, 2)
	other := *r
	if !other.Push(2) || other.Push(3) {
		t.Error("the copy has another capacity")
	}
	expect(t, &other, 3, upTo(3))
}

func TestRemovedElementsAreNotKept(t *testing.T) {
	type large [64]int
	gone := func(name string, take func(r *ring.Ring[*large])) {
		t.Helper()
		r := made[*large](t, 3)
		var kept []weak.Pointer[large]
		for range 3 {
			x := new(large)
			kept = append(kept, weak.Make(x))
			r.Push(x)
		}
		take(r)
		runtime.GC()
		live := 0
		for _, w := range kept {
			if w.Value() != nil {
				live++
			}
		}
		if live != r.Len() {
			t.Errorf("after %s the Ring keeps %d elements alive and has %d", name, live, r.Len())
		}
		runtime.KeepAlive(r)
	}
	gone("Push", func(r *ring.Ring[*large]) {})
	gone("Pop", func(r *ring.Ring[*large]) { r.Pop() })
	gone("Remove(1)", func(r *ring.Ring[*large]) { r.Remove(1) })
	gone("Remove(2)", func(r *ring.Ring[*large]) { r.Remove(2) })
	gone("Clear", func(r *ring.Ring[*large]) { r.Clear() })
}
