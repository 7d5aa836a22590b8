package wheel_test

import (
	"maps"
	"math"
	"math/rand"
	"slices"
	"testing"

	"cotillion/api"
	"cotillion/wheel"
)

// none is a timer that runs in no Wheel that is held against plain counts.
var none = api.Fired{Inst: 77, Timer: 77}

// armed returns a Wheel in which just the timers of left run.
func armed(t *testing.T, left map[api.Fired]int) *wheel.Wheel {
	t.Helper()
	w := wheel.New()
	if w == nil {
		t.Fatal("New() = nil")
	}
	for f, n := range left {
		arm(t, w, f, n)
	}
	expect(t, w, left)
	return w
}

// arm arms a timer that may be.
func arm(t *testing.T, w *wheel.Wheel, f api.Fired, n int) {
	t.Helper()
	if e := w.Arm(f, n); e != api.OK {
		t.Fatalf("Arm(%v, %d) = %d; want OK", f, n, e)
	}
}

// expect holds all that a Wheel tells of itself against the ticks that should be left of each running timer.
func expect(t *testing.T, w *wheel.Wheel, left map[api.Fired]int) {
	t.Helper()
	if w.Len() != len(left) {
		t.Fatalf("Len() = %d; want %d, of %v", w.Len(), len(left), left)
	}
	asked := append(slices.Collect(maps.Keys(left)), append(invalid(), none)...)
	for k := range 13 * 8 {
		asked = append(asked, api.Fired{Inst: k / 8, Timer: k % 8})
	}
	for _, f := range asked {
		n, running := left[f]
		if got, ok := w.Left(f); got != n || ok != running {
			t.Fatalf("Left(%v) = %d, %t; want %d, %t", f, got, ok, n, running)
		}
	}
	if len(left) == 0 {
		if got, ok := w.Next(); got != 0 || ok {
			t.Fatalf("Next() without a timer = %d, %t; want 0, false", got, ok)
		}
		return
	}
	least := slices.Min(slices.Collect(maps.Values(left)))
	if got, ok := w.Next(); got != least || !ok {
		t.Fatalf("Next() = %d, %t; want %d, true", got, ok, least)
	}
}

// tick is one tick that should fire the timers of want, in their order.
func tick(t *testing.T, w *wheel.Wheel, want ...api.Fired) {
	t.Helper()
	if got := w.Tick(); !slices.Equal(got, want) {
		t.Fatalf("Tick() = %v; want %v", got, want)
	}
}

// pass does to the plain counts what Tick should do.
func pass(left map[api.Fired]int) []api.Fired {
	var fired []api.Fired
	for _, f := range slices.SortedFunc(maps.Keys(left), order) {
		if left[f] == 1 {
			fired = append(fired, f)
		}
	}
	for f := range left {
		left[f]--
	}
	for _, f := range fired {
		delete(left, f)
	}
	return fired
}

// order is by Inst, and by Timer of one instance.
func order(a, b api.Fired) int {
	switch {
	case a.Inst < b.Inst || a.Inst == b.Inst && a.Timer < b.Timer:
		return -1
	case a == b:
		return 0
	}
	return 1
}

// invalid are timers with a negative number.
func invalid() []api.Fired {
	var fs []api.Fired
	for _, n := range []int{math.MinInt, math.MinInt + 1, -1 << 32, -1<<32 + 1, -256, -2, -1} {
		fs = append(fs, api.Fired{Inst: n}, api.Fired{Timer: n}, api.Fired{Inst: n, Timer: n}, api.Fired{Inst: n, Timer: 1}, api.Fired{Inst: 1, Timer: n})
	}
	return append(fs, api.Fired{Inst: -1, Timer: math.MaxInt}, api.Fired{Inst: math.MaxInt, Timer: -1})
}

// valid are timers with numbers of all sizes; some are the same as another, if only the low bits of a number or their sum are looked at.
func valid() []api.Fired {
	var fs []api.Fired
	numbers := []int{0, 1, 2, 7, 10, 255, 256, 1 << 16, 1<<16 + 1, 1 << 32, 1<<32 + 1, 1 << 62, math.MaxInt - 1, math.MaxInt}
	for _, i := range numbers {
		for _, k := range numbers {
			fs = append(fs, api.Fired{Inst: i, Timer: k})
		}
	}
	return fs
}

// some are timers of several instances; the first ones of them fire first.
func some() map[api.Fired]int {
	return map[api.Fired]int{
		{Inst: 0, Timer: 0}: 3, {Inst: 0, Timer: 1}: 5, {Inst: 0, Timer: 5}: 9,
		{Inst: 1, Timer: 0}: 3, {Inst: 1, Timer: 2}: api.MaxWait,
		{Inst: 11, Timer: 0}: 2, {Inst: 11, Timer: 1}: 2, {Inst: 11, Timer: 4}: 300,
	}
}

func TestP5_1New(t *testing.T) {
	w := armed(t, nil)
	tick(t, w)
	if w.Cancel(api.Fired{}) || w.Clear(0) != 0 {
		t.Error("a new Wheel has a timer that runs")
	}
	expect(t, w, nil)
}

func TestP5_1ZeroWheel(t *testing.T) {
	untouched := func(*wheel.Wheel) {}
	for k, first := range []func(w *wheel.Wheel){
		untouched,
		func(w *wheel.Wheel) { tick(t, w) },
		func(w *wheel.Wheel) {
			if w.Cancel(api.Fired{}) {
				t.Error("Cancel on a zero Wheel = true")
			}
		},
		func(w *wheel.Wheel) {
			if n := w.Clear(0); n != 0 {
				t.Errorf("Clear(0) on a zero Wheel = %d; want 0", n)
			}
		},
		func(w *wheel.Wheel) {
			if e := w.Arm(api.Fired{}, 0); e != api.ErrArg {
				t.Errorf("Arm of 0 ticks on a zero Wheel = %d; want ErrArg", e)
			}
		},
	} {
		var w wheel.Wheel
		expect(t, &w, nil)
		first(&w)
		expect(t, &w, nil)
		arm(t, &w, api.Fired{Inst: 1, Timer: k}, 2)
		expect(t, &w, map[api.Fired]int{{Inst: 1, Timer: k}: 2})
		tick(t, &w)
		tick(t, &w, api.Fired{Inst: 1, Timer: k})
		expect(t, &w, nil)
	}
}

func TestP5_1Example(t *testing.T) {
	w := wheel.New()
	arm(t, w, api.Fired{Inst: 0, Timer: 1}, 2)
	arm(t, w, api.Fired{Inst: 0, Timer: 0}, 2)
	tick(t, w)
	tick(t, w, api.Fired{Inst: 0, Timer: 0}, api.Fired{Inst: 0, Timer: 1})
	tick(t, w)
}

func TestP5_1Arm(t *testing.T) {
	left, w := map[api.Fired]int{}, wheel.New()
	for k, f := range valid() {
		n := []int{1, 2, api.MaxWait - 1, api.MaxWait, 256, 257}[k%6]
		arm(t, w, f, n)
		left[f] = n
		if k%40 == 0 {
			expect(t, w, left)
		}
	}
	expect(t, w, left)
}

func TestP5_1ArmOfNoSuchNumbers(t *testing.T) {
	w, left := armed(t, some()), some()
	refuse := func(f api.Fired, n int) {
		if e := w.Arm(f, n); e != api.ErrArg {
			t.Errorf("Arm(%v, %d) = %d; want ErrArg", f, n, e)
		}
	}
	for _, f := range invalid() {
		for _, n := range []int{math.MinInt, -1, 0, 1, 2, api.MaxWait, api.MaxWait + 1, math.MaxInt} {
			refuse(f, n)
		}
	}
	for _, n := range []int{
		math.MinInt, math.MinInt + 1, -1<<32 + 1, -1 << 32, -api.MaxWait, -2, -1, 0,
		api.MaxWait + 1, api.MaxWait + 2, 2 * api.MaxWait, 1<<32 - 1, 1 << 32, 1<<32 + 1, math.MaxInt - 1, math.MaxInt,
	} {
		// Of a timer that runs, and of one that does not.
		refuse(api.Fired{Inst: 0, Timer: 1}, n)
		refuse(api.Fired{Inst: 11, Timer: 1}, n)
		refuse(api.Fired{Inst: 1, Timer: 1}, n)
		refuse(none, n)
	}
	expect(t, w, left)
}

func TestP5_1ArmAgain(t *testing.T) {
	f, other := api.Fired{Inst: 3, Timer: 2}, api.Fired{Inst: 2, Timer: 3}
	for _, first := range []int{1, 2, 5, 40} {
		for passed := range first {
			for _, second := range []int{1, 2, 5, 40, 41} {
				w := armed(t, map[api.Fired]int{f: first, other: 900})
				for range passed {
					tick(t, w)
				}
				arm(t, w, f, second)
				expect(t, w, map[api.Fired]int{f: second, other: 900 - passed})
				for range second - 1 {
					tick(t, w)
				}
				tick(t, w, f)
				for range first + 1 {
					tick(t, w)
				}
				expect(t, w, map[api.Fired]int{other: 900 - passed - second - first - 1})
			}
		}
	}
}

func TestP5_1Cancel(t *testing.T) {
	for f := range some() {
		w, left := armed(t, some()), some()
		tick(t, w)
		pass(left)
		if !w.Cancel(f) {
			t.Errorf("Cancel(%v) of a running timer = false", f)
		}
		delete(left, f)
		for range 2 {
			expect(t, w, left)
			if w.Cancel(f) {
				t.Errorf("Cancel(%v) of a stopped timer = true", f)
			}
		}
		for range 12 {
			tick(t, w, pass(left)...)
			expect(t, w, left)
		}
		arm(t, w, f, 4)
		left[f] = 4
		expect(t, w, left)
		if !w.Cancel(f) {
			t.Errorf("Cancel(%v) of a timer that was armed again = false", f)
		}
	}
}

func TestP5_1CancelOfWhatDoesNotRun(t *testing.T) {
	w, left := armed(t, some()), some()
	for _, f := range append(invalid(), none, api.Fired{Inst: 0, Timer: 2}, api.Fired{Inst: 2, Timer: 0}, api.Fired{Inst: 1 << 32, Timer: 0}) {
		if w.Cancel(f) {
			t.Errorf("Cancel(%v) = true; it never ran", f)
		}
	}
	expect(t, w, left)
	tick(t, w)
	tick(t, w, api.Fired{Inst: 11, Timer: 0}, api.Fired{Inst: 11, Timer: 1})
	if w.Cancel(api.Fired{Inst: 11, Timer: 0}) {
		t.Error("Cancel of a timer that has fired = true")
	}
}

func TestP5_1TickGoesInOrder(t *testing.T) {
	random := rand.New(rand.NewSource(51))
	fs := valid()
	sorted := slices.SortedFunc(slices.Values(fs), order)
	for range 20 {
		w := wheel.New()
		random.Shuffle(len(fs), func(a, b int) { fs[a], fs[b] = fs[b], fs[a] })
		for _, f := range fs {
			arm(t, w, f, 1)
		}
		tick(t, w, sorted...)
		expect(t, w, nil)
	}
}

func TestP5_1TickTakesOneOfAll(t *testing.T) {
	w, left := armed(t, some()), some()
	for range 310 {
		tick(t, w, pass(left)...)
		expect(t, w, left)
	}
	if len(left) != 1 {
		t.Errorf("%d timers run; want the one of MaxWait", len(left))
	}
}

func TestP5_1Clear(t *testing.T) {
	for inst, want := range map[int]int{0: 3, 1: 2, 11: 3} {
		w, left := armed(t, some()), some()
		if n := w.Clear(inst); n != want {
			t.Errorf("Clear(%d) = %d; want %d", inst, n, want)
		}
		maps.DeleteFunc(left, func(f api.Fired, _ int) bool { return f.Inst == inst })
		expect(t, w, left)
		if n := w.Clear(inst); n != 0 {
			t.Errorf("Clear(%d) once more = %d; want 0", inst, n)
		}
		for range 12 {
			tick(t, w, pass(left)...)
			expect(t, w, left)
		}
		arm(t, w, api.Fired{Inst: inst, Timer: 6}, 1)
		tick(t, w, append(pass(left), api.Fired{Inst: inst, Timer: 6})...)
	}
}

func TestP5_1ClearOfOtherInstances(t *testing.T) {
	w, left := armed(t, some()), some()
	for _, inst := range []int{math.MinInt, -1 << 32, -11, -1, 2, 4, 5, 10, 12, 256, 1 << 32, 1<<32 + 1, math.MaxInt} {
		if n := w.Clear(inst); n != 0 {
			t.Errorf("Clear(%d) = %d; want 0", inst, n)
		}
		expect(t, w, left)
	}
	arm(t, w, api.Fired{Inst: math.MaxInt}, 7)
	if n := w.Clear(math.MaxInt); n != 1 {
		t.Errorf("Clear(%d) = %d; want 1", math.MaxInt, n)
	}
	expect(t, w, left)
}

func TestP5_1Next(t *testing.T) {
	w := wheel.New()
	a, b, c := api.Fired{Inst: 0, Timer: 0}, api.Fired{Inst: 5, Timer: 1}, api.Fired{Inst: 5, Timer: 0}
	next := func(want int) {
		t.Helper()
		if n, ok := w.Next(); n != want || ok != (want > 0) {
			t.Errorf("Next() = %d, %t; want %d, %t", n, ok, want, want > 0)
		}
	}
	next(0)
	arm(t, w, a, api.MaxWait)
	next(api.MaxWait)
	arm(t, w, b, 3)
	next(3)
	arm(t, w, c, 4)
	next(3)
	tick(t, w)
	next(2)
	arm(t, w, b, 9)
	next(3)
	w.Cancel(c)
	next(9)
	w.Clear(5)
	next(api.MaxWait - 1)
	w.Clear(0)
	next(0)
}

func TestP5_1RunsOfCalls(t *testing.T) {
	for seed := range int64(20) {
		random := rand.New(rand.NewSource(seed))
		w, left := wheel.New(), map[api.Fired]int{}
		insts, timers, most := 1+random.Intn(12), 1+random.Intn(6), 1+random.Intn(20)
		for step := range 3000 {
			f := api.Fired{Inst: random.Intn(insts), Timer: random.Intn(timers)}
			switch random.Intn(10) {
			case 0, 1, 2, 3:
				n := 1 + random.Intn(most)
				arm(t, w, f, n)
				left[f] = n
			case 4:
				_, was := left[f]
				if got := w.Cancel(f); got != was {
					t.Fatalf("seed %d, step %d: Cancel(%v) = %t; want %t", seed, step, f, got, was)
				}
				delete(left, f)
			case 5:
				before := len(left)
				maps.DeleteFunc(left, func(g api.Fired, _ int) bool { return g.Inst == f.Inst })
				if n := w.Clear(f.Inst); n != before-len(left) {
					t.Fatalf("seed %d, step %d: Clear(%d) = %d; want %d", seed, step, f.Inst, n, before-len(left))
				}
			default:
				tick(t, w, pass(left)...)
			}
			expect(t, w, left)
		}
	}
}

func TestP5_1Nil(t *testing.T) {
	var w *wheel.Wheel
	for _, f := range append(valid(), invalid()...) {
		for _, n := range []int{math.MinInt, 0, 1, api.MaxWait, math.MaxInt} {
			if e := w.Arm(f, n); e != api.ErrArg {
				t.Errorf("Arm(%v, %d) = %d; want ErrArg", f, n, e)
			}
		}
		if w.Cancel(f) {
			t.Errorf("Cancel(%v) = true", f)
		}
		if n := w.Clear(f.Inst); n != 0 {
			t.Errorf("Clear(%d) = %d; want 0", f.Inst, n)
		}
		if got := w.Tick(); len(got) != 0 {
			t.Errorf("Tick() = %v; want none", got)
		}
	}
	expect(t, w, nil)
}

func TestP5_2FiresAtTheNthTick(t *testing.T) {
	w, f := wheel.New(), api.Fired{Inst: 2, Timer: 1}
	for n := 1; n <= 200; n++ {
		arm(t, w, f, n)
		for passed := range n {
			expect(t, w, map[api.Fired]int{f: n - passed})
			if passed == n-1 {
				tick(t, w, f)
			} else {
				tick(t, w)
			}
		}
		for range 3 {
			expect(t, w, nil)
			tick(t, w)
		}
	}
}

func TestP5_2FiresAfterTheLongestWait(t *testing.T) {
	w, f := wheel.New(), api.Fired{Inst: 4, Timer: 5}
	arm(t, w, f, api.MaxWait)
	for k := 1; k <= 3*api.MaxWait; k++ {
		got := w.Tick()
		if k == api.MaxWait && !slices.Equal(got, []api.Fired{f}) || k != api.MaxWait && len(got) != 0 {
			t.Fatalf("Tick() number %d = %v", k, got)
		}
	}
	expect(t, w, nil)
}

// Every timer is armed anew only after it has fired, so each must fire after its ticks, whatever the others do.
func TestP5_2FiresOnce(t *testing.T) {
	random := rand.New(rand.NewSource(52))
	w, due := wheel.New(), map[api.Fired]int{}
	for now := range 4000 {
		for range 5 {
			f := api.Fired{Inst: random.Intn(12), Timer: random.Intn(6)}
			if _, running := due[f]; !running {
				n := 1 + random.Intn(30)
				arm(t, w, f, n)
				due[f] = now + n
			}
			// Calls about other timers do nothing to these.
			w.Arm(api.Fired{Inst: 12 + f.Inst, Timer: f.Timer}, 100)
			w.Cancel(api.Fired{Inst: f.Inst, Timer: 6 + f.Timer})
			w.Clear(12 + random.Intn(12))
			w.Arm(f, 0)
		}
		for inst := range 12 {
			w.Clear(12 + inst)
		}
		fired := w.Tick()
		for _, f := range fired {
			if due[f] != now+1 {
				t.Fatalf("%v fired at tick %d; want %d", f, now+1, due[f])
			}
			delete(due, f)
		}
		for f, at := range due {
			if at <= now+1 {
				t.Fatalf("%v did not fire at tick %d", f, at)
			}
		}
	}
}

func TestW6FiredTimersAreNewMemory(t *testing.T) {
	w := wheel.New()
	var kept, copies [][]api.Fired
	for k := range 300 {
		for i := range k % 7 {
			arm(t, w, api.Fired{Inst: k, Timer: i}, 1+i%3)
		}
		got := w.Tick()
		kept, copies = append(kept, got), append(copies, slices.Clone(got))
	}
	for k := range kept {
		if !slices.Equal(kept[k], copies[k]) {
			t.Fatalf("the result of Tick number %d became %v; it was %v", k, kept[k], copies[k])
		}
	}
	for k, got := range kept {
		all := got[:cap(got)]
		for i := range all {
			all[i] = none
		}
		for l := k + 1; l < len(kept); l++ {
			if !slices.Equal(kept[l], copies[l]) {
				t.Fatalf("the results of Tick number %d and %d share memory", k, l)
			}
		}
	}
}

func TestW6ResultsAreNotKept(t *testing.T) {
	w := armed(t, map[api.Fired]int{{Inst: 1}: 1, {Inst: 2}: 1, {Inst: 3}: 2})
	got := w.Tick()
	for i := range got[:cap(got)] {
		got[:cap(got)][i] = none
	}
	expect(t, w, map[api.Fired]int{{Inst: 3}: 1})
	tick(t, w, api.Fired{Inst: 3})
	tick(t, w)
}

func TestW6WheelsShareNothing(t *testing.T) {
	first, second := armed(t, some()), armed(t, some())
	first.Clear(0)
	first.Cancel(api.Fired{Inst: 1})
	first.Tick()
	arm(t, first, none, 8)
	expect(t, second, some())
	second.Clear(11)
	if n, ok := first.Left(none); n != 8 || !ok || first.Len() != 5 {
		t.Errorf("Left = %d, %t, Len = %d; want 8, true, 5", n, ok, first.Len())
	}
}

func TestW8CopyGoesOn(t *testing.T) {
	w, left := armed(t, some()), some()
	tick(t, w)
	pass(left)
	goesOn := *w
	for range 12 {
		arm(t, &goesOn, api.Fired{Inst: 9, Timer: 9}, 5)
		left[api.Fired{Inst: 9, Timer: 9}] = 5
		tick(t, &goesOn, pass(left)...)
		expect(t, &goesOn, left)
	}
	if n := goesOn.Clear(9); n != 1 {
		t.Errorf("Clear(9) = %d; want 1", n)
	}
	var zero wheel.Wheel
	copied := zero
	arm(t, &copied, none, 1)
	tick(t, &copied, none)
}
