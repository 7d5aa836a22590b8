package num_test

import (
	"math"
	"math/big"
	"math/rand"
	"slices"
	"testing"

	"cotillion/api"
	"cotillion/num"
)

const (
	least = math.MinInt64
	most  = math.MaxInt64
)

type unary func(a int64) (int64, api.Errno)
type binary func(a, b int64) (int64, api.Errno)

// edges are the numbers around 0, around every power of two, and around the roots of the bounds.
func edges() []int64 {
	l := []int64{least, least + 1, least + 2, most - 2, most - 1, most}
	for n := int64(-9); n <= 9; n++ {
		l = append(l, n, 3037000500+n, -3037000500+n, least/3+n, most/3+n)
	}
	for shift := 4; shift < 63; shift++ {
		p := int64(1) << shift
		l = append(l, p-1, p, p+1, -p-1, -p, -p+1)
	}
	slices.Sort(l)
	return slices.Compact(l)
}

// eachPair calls f with all pairs of edges, of small numbers, and with pairs of all sizes from a fixed seed.
func eachPair(f func(a, b int64)) {
	l := edges()
	for _, a := range l {
		for _, b := range l {
			f(a, b)
		}
	}
	for a := int64(-40); a <= 40; a++ {
		for b := int64(-40); b <= 40; b++ {
			f(a, b)
		}
	}
	r := rand.New(rand.NewSource(1))
	for range 200000 {
		f(int64(r.Uint64())>>r.Intn(64), int64(r.Uint64())>>r.Intn(64))
	}
}

// expect holds an answer against the exact result.
func expect(t *testing.T, name string, a, b, got int64, e api.Errno, exact *big.Int) {
	t.Helper()
	if !exact.IsInt64() {
		if got != 0 || e != api.ErrOver {
			t.Fatalf("%s(%d, %d) = %d, %d; want 0, ErrOver", name, a, b, got, e)
		}
		return
	}
	if got != exact.Int64() || e != api.OK {
		t.Fatalf("%s(%d, %d) = %d, %d; want %s, OK", name, a, b, got, e, exact)
	}
}

func TestP1_1SumDifferenceProduct(t *testing.T) {
	var x, y, z big.Int
	eachPair(func(a, b int64) {
		x.SetInt64(a)
		y.SetInt64(b)
		got, e := num.Add(a, b)
		expect(t, "Add", a, b, got, e, z.Add(&x, &y))
		got, e = num.Sub(a, b)
		expect(t, "Sub", a, b, got, e, z.Sub(&x, &y))
		got, e = num.Mul(a, b)
		expect(t, "Mul", a, b, got, e, z.Mul(&x, &y))
	})
}

func TestP1_1QuotientAndRest(t *testing.T) {
	var x, y, z big.Int
	eachPair(func(a, b int64) {
		if b == 0 {
			return
		}
		x.SetInt64(a)
		y.SetInt64(b)
		got, e := num.Div(a, b)
		expect(t, "Div", a, b, got, e, z.Quo(&x, &y))
		got, e = num.Mod(a, b)
		expect(t, "Mod", a, b, got, e, z.Rem(&x, &y))
		if got != 0 && (got < 0) != (a < 0) {
			t.Fatalf("Mod(%d, %d) = %d has not the sign of %d", a, b, got, a)
		}
	})
}

func TestP1_1Negation(t *testing.T) {
	var x, z big.Int
	eachPair(func(a, _ int64) {
		got, e := num.Neg(a)
		expect(t, "Neg", a, 0, got, e, z.Neg(x.SetInt64(a)))
	})
}

func TestP1_1ByZero(t *testing.T) {
	for _, a := range edges() {
		if got, e := num.Div(a, 0); got != 0 || e != api.ErrZero {
			t.Errorf("Div(%d, 0) = %d, %d; want 0, ErrZero", a, got, e)
		}
		if got, e := num.Mod(a, 0); got != 0 || e != api.ErrZero {
			t.Errorf("Mod(%d, 0) = %d, %d; want 0, ErrZero", a, got, e)
		}
	}
}

func TestP1_1Written(t *testing.T) {
	for _, x := range []struct {
		name string
		f    binary
		a, b int64
		want int64
		e    api.Errno
	}{
		{"Add", num.Add, 2, 3, 5, api.OK},
		{"Add", num.Add, most, 0, most, api.OK},
		{"Add", num.Add, most, 1, 0, api.ErrOver},
		{"Add", num.Add, most, most, 0, api.ErrOver},
		{"Add", num.Add, least, -1, 0, api.ErrOver},
		{"Add", num.Add, least, least, 0, api.ErrOver},
		{"Add", num.Add, least, most, -1, api.OK},
		{"Sub", num.Sub, 2, 3, -1, api.OK},
		{"Sub", num.Sub, -1, least, most, api.OK},
		{"Sub", num.Sub, 0, least, 0, api.ErrOver},
		{"Sub", num.Sub, least, 1, 0, api.ErrOver},
		{"Sub", num.Sub, least, least, 0, api.OK},
		{"Sub", num.Sub, most, -1, 0, api.ErrOver},
		{"Mul", num.Mul, -4, 3, -12, api.OK},
		{"Mul", num.Mul, least, 1, least, api.OK},
		{"Mul", num.Mul, least, -1, 0, api.ErrOver},
		{"Mul", num.Mul, -1, least, 0, api.ErrOver},
		{"Mul", num.Mul, 0, least, 0, api.OK},
		{"Mul", num.Mul, least, 0, 0, api.OK},
		{"Mul", num.Mul, 1 << 32, 1 << 31, 0, api.ErrOver},
		{"Mul", num.Mul, 1 << 32, 1 << 32, 0, api.ErrOver},
		{"Mul", num.Mul, -1 << 32, 1 << 31, least, api.OK},
		{"Mul", num.Mul, 3037000499, 3037000499, 9223372030926249001, api.OK},
		{"Mul", num.Mul, 3037000500, 3037000500, 0, api.ErrOver},
		{"Div", num.Div, -7, 2, -3, api.OK},
		{"Div", num.Div, 7, -2, -3, api.OK},
		{"Div", num.Div, -7, -2, 3, api.OK},
		{"Div", num.Div, least, -1, 0, api.ErrOver},
		{"Div", num.Div, least, 1, least, api.OK},
		{"Div", num.Div, least, 0, 0, api.ErrZero},
		{"Mod", num.Mod, -7, 2, -1, api.OK},
		{"Mod", num.Mod, 7, -2, 1, api.OK},
		{"Mod", num.Mod, -7, -2, -1, api.OK},
		{"Mod", num.Mod, least, -1, 0, api.OK},
		{"Mod", num.Mod, least, most, -1, api.OK},
		{"Mod", num.Mod, least, 0, 0, api.ErrZero},
	} {
		if got, e := x.f(x.a, x.b); got != x.want || e != x.e {
			t.Errorf("%s(%d, %d) = %d, %d; want %d, %d", x.name, x.a, x.b, got, e, x.want, x.e)
		}
	}
}

func TestP1_1NegationWritten(t *testing.T) {
	for _, x := range []struct {
		a, want int64
		e       api.Errno
	}{
		{0, 0, api.OK}, {5, -5, api.OK}, {-5, 5, api.OK},
		{most, least + 1, api.OK}, {least + 1, most, api.OK}, {least, 0, api.ErrOver},
	} {
		if got, e := unary(num.Neg)(x.a); got != x.want || e != x.e {
			t.Errorf("Neg(%d) = %d, %d; want %d, %d", x.a, got, e, x.want, x.e)
		}
	}
}

func TestP1_2Sum(t *testing.T) {
	for _, x := range []struct {
		l    []int64
		want int64
		e    api.Errno
	}{
		{nil, 0, api.OK},
		{[]int64{}, 0, api.OK},
		{[]int64{least}, least, api.OK},
		{[]int64{1, 2, 3, -10}, -4, api.OK},
		{[]int64{most, 1}, 0, api.ErrOver},
		{[]int64{least, -1}, 0, api.ErrOver},
		{[]int64{most, least, most, 1}, most, api.OK},
		// The whole fits, but a partial sum does not: order decides.
		{[]int64{most, 1, -1}, 0, api.ErrOver},
		{[]int64{1, most, -1}, 0, api.ErrOver},
		{[]int64{least, -1, 1}, 0, api.ErrOver},
		{[]int64{most, 1, least, least}, 0, api.ErrOver},
		{[]int64{most, -1, 1}, most, api.OK},
		{[]int64{-1, 1, most}, most, api.OK},
	} {
		if got, e := num.Sum(x.l...); got != x.want || e != x.e {
			t.Errorf("Sum(%v) = %d, %d; want %d, %d", x.l, got, e, x.want, x.e)
		}
	}
}

func TestP1_2SumIsExactUpToTheFirstOverflow(t *testing.T) {
	r := rand.New(rand.NewSource(2))
	for range 20000 {
		l := make([]int64, r.Intn(6))
		sum, over := new(big.Int), false
		for i := range l {
			l[i] = int64(r.Uint64()) >> r.Intn(4)
			over = over || !sum.Add(sum, big.NewInt(l[i])).IsInt64()
		}
		got, e := num.Sum(l...)
		if over && (got != 0 || e != api.ErrOver) {
			t.Fatalf("Sum(%v) = %d, %d; want 0, ErrOver", l, got, e)
		}
		if !over && (got != sum.Int64() || e != api.OK) {
			t.Fatalf("Sum(%v) = %d, %d; want %s, OK", l, got, e, sum)
		}
	}
}

func TestP1_2Most(t *testing.T) {
	for _, x := range []struct {
		l    []int64
		want int64
	}{
		{nil, 0}, {[]int64{}, 0},
		{[]int64{least}, least}, {[]int64{-5}, -5},
		{[]int64{-3, -9}, -3}, {[]int64{-9, -3}, -3},
		{[]int64{1, 7, 2}, 7}, {[]int64{7, 7}, 7},
		{[]int64{0, most, least}, most}, {[]int64{least, -1}, -1},
	} {
		if got := num.Most(x.l...); got != x.want {
			t.Errorf("Most(%v) = %d; want %d", x.l, got, x.want)
		}
	}
}

func TestP1_2Parts(t *testing.T) {
	for _, x := range []struct {
		n, by, want int64
		e           api.Errno
	}{
		{7, 3, 3, api.OK}, {0, 3, 0, api.OK}, {6, 3, 2, api.OK}, {1, 3, 1, api.OK}, {0, 1, 0, api.OK},
		{most, 1, most, api.OK}, {most, 2, 1 << 62, api.OK}, {most, most, 1, api.OK},
		{most - 1, most, 1, api.OK}, {most, most - 1, 2, api.OK}, {1, most, 1, api.OK}, {0, most, 0, api.OK},
		{-1, 3, 0, api.ErrArg}, {least, 1, 0, api.ErrArg}, {0, 0, 0, api.ErrArg}, {5, 0, 0, api.ErrArg},
		{5, -1, 0, api.ErrArg}, {5, least, 0, api.ErrArg}, {-5, -1, 0, api.ErrArg}, {least, least, 0, api.ErrArg},
	} {
		if got, e := num.Parts(x.n, x.by); got != x.want || e != x.e {
			t.Errorf("Parts(%d, %d) = %d, %d; want %d, %d", x.n, x.by, got, e, x.want, x.e)
		}
	}
}

func TestP1_2PartsAreJustEnough(t *testing.T) {
	var n, by, up big.Int
	eachPair(func(a, b int64) {
		got, e := num.Parts(a, b)
		if a < 0 || b < 1 {
			if got != 0 || e != api.ErrArg {
				t.Fatalf("Parts(%d, %d) = %d, %d; want 0, ErrArg", a, b, got, e)
			}
			return
		}
		n.SetInt64(a)
		by.SetInt64(b)
		up.Add(&n, &by).Sub(&up, big.NewInt(1)).Quo(&up, &by)
		expect(t, "Parts", a, b, got, e, &up)
	})
}

func TestP1_3Laws(t *testing.T) {
	eachPair(func(a, b int64) {
		for name, f := range map[string]binary{"Add": num.Add, "Mul": num.Mul} {
			x, e := f(a, b)
			y, g := f(b, a)
			if x != y || e != g {
				t.Fatalf("%s(%d, %d) = %d, %d, but the other way round %d, %d", name, a, b, x, e, y, g)
			}
		}
		q, e := num.Div(a, b)
		if e != api.OK {
			return
		}
		rest, e1 := num.Mod(a, b)
		whole, e2 := num.Mul(b, q)
		back, e3 := num.Add(whole, rest)
		if e1 != api.OK || e2 != api.OK || e3 != api.OK || back != a {
			t.Fatalf("%d * %d + %d = %d (%d, %d, %d); want %d", b, q, rest, back, e1, e2, e3, a)
		}
	})
}

func TestW6ArgumentsStayAsTheyAre(t *testing.T) {
	room := []int64{3, -1, 2, 77, 78}
	before := slices.Clone(room)
	num.Sum(room[:3]...)
	num.Most(room[:3]...)
	if !slices.Equal(room, before) {
		t.Errorf("the arguments became %v; want %v", room, before)
	}
}
