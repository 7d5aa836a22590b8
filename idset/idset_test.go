package idset_test

import (
	"math"
	"math/rand"
	"slices"
	"testing"

	"cotillion/idset"
)

// size is how many integers may be elements.
const size = 128

// flags is what a Set should be like: whether each integer is an element.
type flags [size]bool

// outside are integers that are never elements; many of them are elements if only their low bits are looked at.
var outside = []int{
	math.MinInt, math.MinInt + 5, -1 << 40, -1<<32 + 5, -256, -129, -128, -127, -65, -64, -63, -5, -2, -1,
	128, 129, 133, 191, 192, 193, 255, 256, 261, 1 << 16, 1 << 31, 1 << 32, 1<<32 + 5, 1<<62 + 64, math.MaxInt - 1, math.MaxInt,
}

// candidates are all integers that can be elements and the ones outside.
func candidates() []int {
	var l []int
	for i := range size {
		l = append(l, i)
	}
	return append(l, outside...)
}

// flagged returns the flags of these integers.
func flagged(l []int) flags {
	var f flags
	for _, i := range l {
		if i >= 0 && i < size {
			f[i] = true
		}
	}
	return f
}

// list returns the integers with a flag in ascending order.
func (f flags) list() []int {
	var l []int
	for i, in := range f {
		if in {
			l = append(l, i)
		}
	}
	return l
}

// every returns the integers of a range, a step apart.
func every(from, below, step int) []int {
	var l []int
	for i := from; i < below; i += step {
		l = append(l, i)
	}
	return l
}

// samples are lists of integers for sets of all shapes: none, few, half of them, all but one, all.
func samples() [][]int {
	ls := [][]int{
		nil, {0}, {1}, {5}, {62}, {63}, {64}, {65}, {69}, {126}, {127},
		{0, 127}, {63, 64}, {0, 64}, {1, 2}, {2, 3}, {1, 2, 3}, {0, 1, 2, 61, 62, 63, 64, 65, 125, 126, 127},
		every(0, 64, 1), every(64, 128, 1), every(0, 128, 1), every(0, 128, 2), every(1, 128, 2), every(0, 127, 1), every(1, 128, 1),
		append(every(0, 63, 1), every(64, 128, 1)...), append(every(0, 64, 1), every(65, 128, 1)...), every(32, 96, 1),
	}
	random := rand.New(rand.NewSource(3))
	for k := range 30 {
		ls = append(ls, random.Perm(size)[:random.Intn(4*k+2)])
	}
	return ls
}

// expect holds all that a Set tells of itself against the integers that it should have.
func expect(t *testing.T, s idset.Set, want flags) {
	t.Helper()
	l := want.list()
	if got := s.List(); !slices.Equal(got, l) {
		t.Fatalf("List() = %v; want %v", got, l)
	}
	if got := slices.Collect(s.All()); !slices.Equal(got, l) {
		t.Fatalf("All() goes through %v; want %v", got, l)
	}
	if s.Len() != len(l) {
		t.Fatalf("Len() = %d; the elements are %v", s.Len(), l)
	}
	for i, in := range want {
		if s.Has(i) != in {
			t.Fatalf("Has(%d) = %t; the elements are %v", i, !in, l)
		}
	}
}

func TestP3_1Example(t *testing.T) {
	if l := idset.Of(5, 3, 5, -1, 200).List(); !slices.Equal(l, []int{3, 5}) {
		t.Errorf("List() = %v; want 3 5", l)
	}
}

func TestP3_1Of(t *testing.T) {
	for _, l := range samples() {
		expect(t, idset.Of(l...), flagged(l))
		// The order of the arguments, and how often each of them is given, is of no account.
		twice := append(slices.Clone(l), l...)
		slices.Reverse(twice)
		expect(t, idset.Of(twice...), flagged(l))
	}
	expect(t, idset.Of(), flags{})
	expect(t, idset.Of([]int{}...), flags{})
}

func TestP3_1OfIgnoresIntegersOutside(t *testing.T) {
	expect(t, idset.Of(outside...), flags{})
	for _, i := range outside {
		expect(t, idset.Of(i), flags{})
		expect(t, idset.Of(7, i, 70), flagged([]int{7, 70}))
	}
	expect(t, idset.Of(candidates()...), flagged(every(0, size, 1)))
}

func TestP3_1WithAndWithout(t *testing.T) {
	for _, l := range samples() {
		s := idset.Of(l...)
		for _, i := range candidates() {
			added, removed := flagged(l), flagged(l)
			if i >= 0 && i < size {
				added[i], removed[i] = true, false
			}
			expect(t, s.With(i), added)
			expect(t, s.Without(i), removed)
		}
		expect(t, s, flagged(l))
	}
}

func TestP3_1Has(t *testing.T) {
	for _, l := range samples() {
		s, f := idset.Of(l...), flagged(l)
		for i := -300; i < 600; i++ {
			if want := i >= 0 && i < size && f[i]; s.Has(i) != want {
				t.Errorf("Of(%v).Has(%d) = %t", l, i, !want)
			}
		}
		for _, i := range outside {
			if s.Has(i) {
				t.Errorf("Of(%v).Has(%d) = true", l, i)
			}
		}
	}
}

func TestP3_1Pairs(t *testing.T) {
	for _, l := range samples() {
		for _, m := range samples() {
			a, b := flagged(l), flagged(m)
			s, u := idset.Of(l...), idset.Of(m...)
			var or, and, not flags
			for i := range size {
				or[i], and[i], not[i] = a[i] || b[i], a[i] && b[i], a[i] && !b[i]
			}
			expect(t, idset.Or(s, u), or)
			expect(t, idset.And(s, u), and)
			expect(t, idset.Not(s, u), not)
			if want := not == (flags{}); idset.Within(s, u) != want {
				t.Fatalf("Within(%v, %v) = %t", l, m, !want)
			}
			expect(t, s, a)
			expect(t, u, b)
		}
	}
}

func TestP3_1WithinLacksOne(t *testing.T) {
	all := idset.Of(every(0, size, 1)...)
	for i := range size {
		but := all.Without(i)
		if !idset.Within(but, all) || idset.Within(all, but) || idset.Within(idset.Of(i), but) || !idset.Within(idset.Of(i), all) {
			t.Errorf("Within is wrong about element %d", i)
		}
	}
}

func TestP3_1ZeroSetIsEmpty(t *testing.T) {
	var s idset.Set
	expect(t, s, flags{})
	for _, i := range candidates() {
		if s.Has(i) {
			t.Errorf("Has(%d) = true", i)
		}
		expect(t, s.Without(i), flags{})
	}
	expect(t, s.With(127).With(0), flagged([]int{0, 127}))
	for _, l := range samples() {
		u := idset.Of(l...)
		expect(t, idset.Or(s, u), flagged(l))
		expect(t, idset.And(s, u), flags{})
		expect(t, idset.Not(u, s), flagged(l))
		expect(t, idset.Not(s, u), flags{})
		if !idset.Within(s, u) || idset.Within(u, s) != (len(l) == 0) {
			t.Errorf("Within is wrong about the zero Set and %v", l)
		}
	}
}

func TestP3_1AllStops(t *testing.T) {
	for _, l := range samples() {
		s, want := idset.Of(l...), flagged(l).list()
		for most := 1; most <= len(want)+1; most++ {
			var got []int
			s.All()(func(i int) bool {
				got = append(got, i)
				return len(got) < most
			})
			if !slices.Equal(got, want[:min(most, len(want))]) {
				t.Fatalf("stopped after %d of %v: got %v", most, want, got)
			}
		}
	}
	idset.Of().All()(func(i int) bool {
		t.Errorf("an empty Set has the element %d", i)
		return true
	})
}

func TestP3_1AllAgain(t *testing.T) {
	s := idset.Of(2, 63, 64, 100)
	all := s.All()
	for i := range all {
		if i == 63 {
			break
		}
	}
	var pairs int
	for range all {
		for range all {
			pairs++
		}
	}
	if pairs != 16 {
		t.Errorf("one iterator within itself went through %d pairs; want 16", pairs)
	}
	if l := slices.Collect(all); !slices.Equal(l, []int{2, 63, 64, 100}) {
		t.Errorf("after it was stopped, the iterator goes through %v", l)
	}
}

func TestP3_2Example(t *testing.T) {
	if idset.Not(idset.Of(1, 2), idset.Of(2, 3)) != idset.Of(1) {
		t.Error("Not(Of(1, 2), Of(2, 3)) != Of(1)")
	}
}

func TestP3_2EqualIfSameElements(t *testing.T) {
	for _, l := range samples() {
		for _, m := range samples() {
			s, u := idset.Of(l...), idset.Of(m...)
			if want := flagged(l) == flagged(m); (s == u) != want || (any(s) == any(u)) != want {
				t.Fatalf("Of(%v) == Of(%v) is %t", l, m, !want)
			}
		}
	}
	var zero idset.Set
	seen := map[idset.Set]int{zero: -1}
	for i := range size {
		s := idset.Of(i)
		if at, is := seen[s]; is {
			t.Errorf("Of(%d) is the same key as that of %d", i, at)
		}
		seen[s] = i
	}
}

func TestP3_2EqualHoweverMade(t *testing.T) {
	all := idset.Of(candidates()...)
	for _, l := range samples() {
		f := flagged(l)
		want := idset.Of(l...)
		var grown, between idset.Set
		shrunk := all
		for _, i := range candidates() {
			in := i >= 0 && i < size && f[i]
			if in {
				grown = grown.With(i).With(i)
				between = between.Without(i).With(i)
			} else {
				shrunk = shrunk.Without(i).Without(i)
				between = between.With(i).Without(i)
			}
		}
		rest := idset.Not(all, want)
		made := []idset.Set{
			grown, shrunk, between, idset.Of(want.List()...), idset.Of(append(slices.Clone(outside), l...)...),
			idset.Or(want, want), idset.And(want, all), idset.Not(all, rest), idset.Not(want, rest), idset.Or(want, idset.Not(rest, all)),
		}
		for k, s := range made {
			if s != want {
				t.Errorf("way %d: %v != %v", k, s.List(), want.List())
			}
		}
	}
}

func TestP3_2LikeFlags(t *testing.T) {
	random := rand.New(rand.NewSource(1))
	var s, other idset.Set
	var f, of flags
	for range 20000 {
		i := random.Intn(size+20) - 10
		fits := i >= 0 && i < size
		switch random.Intn(8) {
		default:
			s = s.With(i)
			if fits {
				f[i] = true
			}
		case 0, 1, 2:
			s = s.Without(i)
			if fits {
				f[i] = false
			}
		case 3:
			s, other, f, of = other, s, of, f
		}
		if (s == other) != (f == of) || s != idset.Of(f.list()...) {
			t.Fatalf("%v, %v are not as they should be: %v, %v", s.List(), other.List(), f.list(), of.list())
		}
		expect(t, s, f)
	}
}

func TestW6ArgumentsStayAsTheyAre(t *testing.T) {
	l := []int{9, 3, -1, 3, 500, 77, 78}
	given := l[:4]
	s := idset.Of(given...)
	if !slices.Equal(l, []int{9, 3, -1, 3, 500, 77, 78}) {
		t.Errorf("the arguments became %v", l)
	}
	for i := range l {
		l[i] = 40
	}
	expect(t, s, flagged([]int{3, 9}))
}

func TestW6ListsShareNothing(t *testing.T) {
	s := idset.Of(1, 64, 127)
	first, second := s.List(), s.List()
	first = first[:cap(first)]
	for i := range first {
		first[i] = -9
	}
	if !slices.Equal(second, []int{1, 64, 127}) {
		t.Errorf("two results share memory: %v", second)
	}
	expect(t, s, flagged([]int{1, 64, 127}))
}

func TestW7IteratorStaysAsItIs(t *testing.T) {
	s := idset.Of(1, 2, 100)
	all := s.All()
	s = s.Without(2).With(50)
	if l := slices.Collect(all); !slices.Equal(l, []int{1, 2, 100}) {
		t.Errorf("the iterator became one over %v", l)
	}
	var got []int
	for i := range s.All() {
		s = s.Without(i + 49).With(i + 1)
		got = append(got, i)
	}
	if !slices.Equal(got, []int{1, 50, 100}) {
		t.Errorf("the iterator went through %v while its variable changed", got)
	}
}
