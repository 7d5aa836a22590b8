package ledger_test

import (
	"math"
	"math/rand"
	"slices"
	"testing"

	"cotillion/api"
	"cotillion/ledger"
)

// made returns a Ledger of capacities that may be.
func made(t *testing.T, caps ...int) *ledger.Ledger {
	t.Helper()
	l, e := ledger.New(caps)
	if l == nil || e != api.OK {
		t.Fatalf("New(%v) = %v, %d; want a Ledger, OK", caps, l, e)
	}
	return l
}

// drawn returns a Ledger in which held[c] credits of channel c are taken.
func drawn(t *testing.T, caps, held []int) *ledger.Ledger {
	t.Helper()
	l := made(t, caps...)
	for c, n := range held {
		for range n {
			if e := l.Take(c); e != api.OK {
				t.Fatalf("capacities %v: Take(%d) = %d; want OK", caps, c, e)
			}
		}
	}
	expect(t, l, caps, held)
	return l
}

// expect holds all that a Ledger tells of itself against the credits that should be taken.
func expect(t *testing.T, l *ledger.Ledger, caps, held []int) {
	t.Helper()
	free := make([]int, len(caps))
	for c, n := range caps {
		free[c] = n - held[c]
		if l.Free(c) != free[c] || l.Held(c) != held[c] {
			t.Fatalf("capacities %v: Free(%d) = %d, Held(%d) = %d; want %d, %d", caps, c, l.Free(c), c, l.Held(c), free[c], held[c])
		}
	}
	for _, c := range outside(len(caps)) {
		if l.Free(c) != 0 || l.Held(c) != 0 {
			t.Fatalf("capacities %v: Free(%d) = %d, Held(%d) = %d; want 0, 0", caps, c, l.Free(c), c, l.Held(c))
		}
	}
	if !l.Has(free) {
		t.Fatalf("capacities %v: Has(%v) = false; so many are free", caps, free)
	}
	for c := range free {
		free[c]++
		if l.Has(free) {
			t.Fatalf("capacities %v: Has(%v) = true; channel %d has one less", caps, free, c)
		}
		free[c]--
	}
}

// outside are integers that are not the number of one of n channels; some are, if only their low bits are looked at.
func outside(n int) []int {
	return []int{
		math.MinInt, math.MinInt + 1, -1 << 32, -256, -n - 1, -n, -1,
		n, n + 1, n + api.MaxChans, 1 << 8, 1 << 16, 1 << 32, 1<<32 + 1, math.MaxInt - 1, math.MaxInt,
	}
}

// systems are capacities of one to all channels, the least and the greatest ones too.
func systems() [][]int {
	ls := [][]int{
		{1}, {2}, {api.MaxCap}, {2, 1}, {1, 1, 1}, {1, api.MaxCap}, {api.MaxCap, 1}, {3, 5, 2, 4},
		slices.Repeat([]int{1}, api.MaxChans), slices.Repeat([]int{api.MaxCap}, api.MaxChans),
	}
	random := rand.New(rand.NewSource(4))
	for n := 1; n <= api.MaxChans; n++ {
		caps := make([]int, n)
		for c := range caps {
			caps[c] = 1 + random.Intn(api.MaxCap)
		}
		ls = append(ls, caps)
	}
	return ls
}

// some returns how many credits of each channel a test takes: none, all, or a number that differs from channel to channel.
func some(caps []int, kind int) []int {
	held := make([]int, len(caps))
	for c, n := range caps {
		held[c] = []int{0, n, (c*7 + 1) % (n + 1)}[kind]
	}
	return held
}

func TestP4_1New(t *testing.T) {
	for _, caps := range systems() {
		expect(t, made(t, caps...), caps, make([]int, len(caps)))
	}
	for n := 1; n <= api.MaxCap; n++ {
		expect(t, made(t, 7, n, 1), []int{7, n, 1}, []int{0, 0, 0})
	}
}

func TestP4_1NewOfNoChannels(t *testing.T) {
	expect(t, made(t), nil, nil)
	expect(t, made(t, []int{}...), nil, nil)
}

func TestP4_1NewOfTooManyChannels(t *testing.T) {
	for _, n := range []int{api.MaxChans + 1, api.MaxChans + 2, 2 * api.MaxChans, 256, 257, 1 << 16, 1<<16 + 1} {
		for _, x := range []int{1, api.MaxCap, 0} {
			if l, e := ledger.New(slices.Repeat([]int{x}, n)); l != nil || e != api.ErrArg {
				t.Errorf("New of %d times %d = %v, %d; want nil, ErrArg", n, x, l, e)
			}
		}
	}
}

func TestP4_1NewOfNoCapacity(t *testing.T) {
	bad := []int{
		math.MinInt, -1<<32 + 1, -257, -api.MaxCap, -2, -1, 0,
		api.MaxCap + 1, api.MaxCap + 2, 2 * api.MaxCap, 257, 1<<16 + 1, 1<<32 + 1, math.MaxInt,
	}
	for _, n := range []int{1, 2, 3, api.MaxChans} {
		for c := range n {
			for _, x := range bad {
				caps := slices.Repeat([]int{2}, n)
				caps[c] = x
				if l, e := ledger.New(caps); l != nil || e != api.ErrArg {
					t.Errorf("New(%v) = %v, %d; want nil, ErrArg", caps, l, e)
				}
			}
		}
	}
}

func TestP4_1Example(t *testing.T) {
	l := made(t, 2, 1)
	if e := l.Take(0); e != api.OK {
		t.Errorf("Take(0) = %d; want OK", e)
	}
	if one, two := l.Has([]int{1, 1}), l.Has([]int{2}); !one || two {
		t.Errorf("Has(1 1) = %t, Has(2) = %t; want true, false", one, two)
	}
	if e := l.Give(1); e != api.ErrState {
		t.Errorf("Give(1) = %d; want ErrState", e)
	}
	expect(t, l, []int{2, 1}, []int{1, 0})
}

func TestP4_1TakeAndGive(t *testing.T) {
	for _, caps := range systems() {
		held := some(caps, 2)
		l := drawn(t, caps, held)
		for c := range caps {
			was := held[c]
			for ; held[c] < caps[c]; held[c]++ {
				expect(t, l, caps, held)
				if e := l.Take(c); e != api.OK {
					t.Fatalf("capacities %v: Take(%d) = %d; want OK", caps, c, e)
				}
			}
			for range 2 {
				if e := l.Take(c); e != api.ErrFull {
					t.Fatalf("capacities %v: Take(%d) without a free credit = %d; want ErrFull", caps, c, e)
				}
				expect(t, l, caps, held)
			}
			for ; held[c] > 0; held[c]-- {
				expect(t, l, caps, held)
				if e := l.Give(c); e != api.OK {
					t.Fatalf("capacities %v: Give(%d) = %d; want OK", caps, c, e)
				}
			}
			for range 2 {
				if e := l.Give(c); e != api.ErrState {
					t.Fatalf("capacities %v: Give(%d) without a taken credit = %d; want ErrState", caps, c, e)
				}
				expect(t, l, caps, held)
			}
			for ; held[c] < was; held[c]++ {
				l.Take(c)
			}
		}
	}
}

func TestP4_1Reset(t *testing.T) {
	for _, caps := range systems() {
		for kind := range 3 {
			held := some(caps, kind)
			l := drawn(t, caps, held)
			for c := range caps {
				if n, e := l.Reset(c); n != held[c] || e != api.OK {
					t.Fatalf("capacities %v: Reset(%d) = %d, %d; want %d, OK", caps, c, n, e, held[c])
				}
				held[c] = 0
				expect(t, l, caps, held)
				if n, e := l.Reset(c); n != 0 || e != api.OK {
					t.Fatalf("capacities %v: Reset(%d) once more = %d, %d; want 0, OK", caps, c, n, e)
				}
				expect(t, l, caps, held)
			}
			for c, n := range caps {
				for range n {
					if e := l.Take(c); e != api.OK {
						t.Fatalf("capacities %v: Take(%d) after Reset = %d; want OK", caps, c, e)
					}
				}
			}
			expect(t, l, caps, caps)
		}
	}
}

func TestP4_1NoSuchChannel(t *testing.T) {
	for _, caps := range append(systems(), nil) {
		for kind := range 3 {
			held := some(caps, kind)
			l := drawn(t, caps, held)
			for _, c := range outside(len(caps)) {
				if e := l.Take(c); e != api.ErrNone {
					t.Fatalf("capacities %v: Take(%d) = %d; want ErrNone", caps, c, e)
				}
				if e := l.Give(c); e != api.ErrNone {
					t.Fatalf("capacities %v: Give(%d) = %d; want ErrNone", caps, c, e)
				}
				if n, e := l.Reset(c); n != 0 || e != api.ErrNone {
					t.Fatalf("capacities %v: Reset(%d) = %d, %d; want 0, ErrNone", caps, c, n, e)
				}
			}
			expect(t, l, caps, held)
		}
	}
}

func TestP4_1Has(t *testing.T) {
	l := drawn(t, []int{4, 1, 3}, []int{1, 1, 0})
	for _, x := range []struct {
		needs []int
		want  bool
	}{
		{nil, true}, {[]int{}, true},
		{[]int{0}, true}, {[]int{2}, true}, {[]int{3}, true}, {[]int{4}, false}, {[]int{5}, false}, {[]int{math.MaxInt}, false},
		{[]int{-1}, true}, {[]int{math.MinInt, math.MinInt, math.MinInt}, true},
		{[]int{0, 0}, true}, {[]int{0, 1}, false}, {[]int{3, 1}, false}, {[]int{4, 0}, false}, {[]int{-9, -9, 3}, true},
		{[]int{3, 0, 3}, true}, {[]int{3, 0, 4}, false}, {[]int{3, 1, 3}, false}, {[]int{4, 0, 3}, false}, {[]int{0, 0, math.MaxInt}, false},
		{[]int{3, 0, 3, 0}, true}, {[]int{3, 0, 3, -1}, true}, {[]int{3, 0, 3, math.MinInt, 0, -7}, true},
		{[]int{3, 0, 3, 1}, false}, {[]int{0, 0, 0, 1}, false}, {[]int{0, 0, 0, 0, 0, 1}, false}, {[]int{0, 0, 0, -1, math.MaxInt}, false},
		{[]int{4, 0, 3, 0}, false}, {[]int{0, 1, 0, -1}, false},
	} {
		if got := l.Has(x.needs); got != x.want {
			t.Errorf("Has(%v) = %t; want %t", x.needs, got, x.want)
		}
	}
	expect(t, l, []int{4, 1, 3}, []int{1, 1, 0})
}

func TestP4_1HasOfManyNeeds(t *testing.T) {
	caps := slices.Repeat([]int{1}, api.MaxChans)
	l := made(t, caps...)
	for _, n := range []int{api.MaxChans, api.MaxChans + 1, 256, 1 << 16} {
		needs := make([]int, n)
		if !l.Has(needs) {
			t.Errorf("Has of %d times 0 = false", n)
		}
		needs[n-1] = -1
		if !l.Has(needs) {
			t.Errorf("Has of %d needs, the last one -1 = false", n)
		}
		needs[n-1] = 1
		if got := l.Has(needs); got != (n == api.MaxChans) {
			t.Errorf("Has of %d needs, the last one 1 = %t", n, got)
		}
	}
}

func TestP4_1Nil(t *testing.T) {
	var l *ledger.Ledger
	for _, c := range []int{math.MinInt, -1, 0, 1, api.MaxChans, math.MaxInt} {
		if take, give := l.Take(c), l.Give(c); take != api.ErrNone || give != api.ErrNone {
			t.Errorf("Take(%d) = %d, Give(%d) = %d; want ErrNone", c, take, c, give)
		}
		if n, e := l.Reset(c); n != 0 || e != api.ErrNone {
			t.Errorf("Reset(%d) = %d, %d; want 0, ErrNone", c, n, e)
		}
		if l.Free(c) != 0 || l.Held(c) != 0 {
			t.Errorf("Free(%d) = %d, Held(%d) = %d; want 0, 0", c, l.Free(c), c, l.Held(c))
		}
	}
	for _, needs := range [][]int{nil, {}, {0}, {-1}, {1}, {0, 0, -3}} {
		if l.Has(needs) {
			t.Errorf("Has(%v) = true", needs)
		}
	}
}

// W1 holds for every object, so for one that New has not made too.
func TestW1ZeroLedger(t *testing.T) {
	l := new(ledger.Ledger)
	for _, c := range []int{-1, 0, 1} {
		n, e := l.Reset(c)
		if l.Take(c) != api.ErrNone || l.Give(c) != api.ErrNone || n != 0 || e != api.ErrNone {
			t.Errorf("a Ledger of no channels has the channel %d", c)
		}
	}
	expect(t, l, nil, nil)
}

func TestP4_2SumIsTheCapacity(t *testing.T) {
	for k, caps := range systems() {
		random := rand.New(rand.NewSource(int64(k)))
		l, held := made(t, caps...), make([]int, len(caps))
		for step := range 1500 {
			c := random.Intn(len(caps))
			var e, want api.Errno
			switch random.Intn(16) {
			// Takes and gives are the more frequent ones in turn, so that the credits run out and come back.
			default:
				if step/200%2 == 0 {
					e, want = l.Take(c), take(caps, held, c)
				} else {
					e, want = l.Give(c), give(held, c)
				}
			case 0, 1, 2:
				e, want = l.Give(c), give(held, c)
			case 3, 4, 5:
				e, want = l.Take(c), take(caps, held, c)
			case 6:
				var n int
				if n, e = l.Reset(c); n != held[c] {
					t.Fatalf("capacities %v, step %d: Reset(%d) = %d; want %d", caps, step, c, n, held[c])
				}
				held[c] = 0
			}
			if e != want {
				t.Fatalf("capacities %v, step %d: channel %d: error %d; want %d", caps, step, c, e, want)
			}
			for c, n := range caps {
				if l.Free(c)+l.Held(c) != n || l.Free(c) < 0 || l.Held(c) < 0 {
					t.Fatalf("capacities %v, step %d: Free(%d) = %d, Held(%d) = %d", caps, step, c, l.Free(c), c, l.Held(c))
				}
			}
			expect(t, l, caps, held)
		}
	}
}

// take does to the plain counts what Take should do.
func take(caps, held []int, c int) api.Errno {
	if held[c] == caps[c] {
		return api.ErrFull
	}
	held[c]++
	return api.OK
}

// give does to the plain counts what Give should do.
func give(held []int, c int) api.Errno {
	if held[c] == 0 {
		return api.ErrState
	}
	held[c]--
	return api.OK
}

func TestW6ArgumentsStayAsTheyAre(t *testing.T) {
	memory := []int{3, 1, 2, 0, -5, 99}
	caps := memory[:3]
	l := made(t, caps...)
	l.Take(0)
	l.Take(2)
	l.Reset(2)
	if !slices.Equal(memory, []int{3, 1, 2, 0, -5, 99}) {
		t.Errorf("the capacities became %v", memory)
	}
	for c := range memory {
		memory[c] = 30
	}
	expect(t, l, []int{3, 1, 2}, []int{1, 0, 0})

	needs := []int{2, 1, -4, 0, 77}
	// The unused capacity of the needs is not part of them.
	if !l.Has(needs[:4]) {
		t.Error("Has(2 1 -4 0) = false")
	}
	if !slices.Equal(needs, []int{2, 1, -4, 0, 77}) {
		t.Errorf("the needs became %v", needs)
	}
}

func TestW6LedgersShareNothing(t *testing.T) {
	caps := []int{2, 3}
	first, second := made(t, caps...), made(t, caps...)
	first.Take(0)
	second.Take(1)
	expect(t, first, caps, []int{1, 0})
	expect(t, second, caps, []int{0, 1})
}

func TestW8CopyGoesOn(t *testing.T) {
	caps := []int{2, 3}
	l := drawn(t, caps, []int{1, 2})
	other := *l
	if e := other.Take(1); e != api.OK {
		t.Errorf("Take(1) of the copy = %d; want OK", e)
	}
	expect(t, &other, caps, []int{1, 3})
}
