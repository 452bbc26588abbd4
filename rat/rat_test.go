package rat

import (
	"math"
	"math/big"
	"testing"

	"selvage/api"
)

func x(n, d int) api.Rat { return api.Rat{Num: n, Den: d} }

// edges are right moments at the limits, some of them the same moment told otherwise.
func edges() []api.Rat {
	return []api.Rat{
		x(-api.MaxNum, 1), x(-api.MaxNum+1, 1), x(-api.MaxNum, 2), x(-api.MaxNum, 3),
		x(-api.MaxNum, api.MaxDen-1), x(-api.MaxNum, api.MaxDen), x(-1024, 1), x(-1, api.MaxDen), x(-1, api.MaxDen-1),
		x(0, 1), x(0, 7), x(0, api.MaxDen), x(1, api.MaxDen), x(1, api.MaxDen-1), x(2, api.MaxDen),
		x(1, 512), x(api.MaxDen, api.MaxDen), x(api.MaxDen-1, api.MaxDen), x(1, 1), x(1024, 1),
		x(api.MaxNum, api.MaxDen), x(api.MaxNum, api.MaxDen-1), x(api.MaxNum, 3), x(api.MaxNum, 2),
		x(api.MaxNum-1, 1), x(api.MaxNum-1, 2), x(api.MaxNum, 1),
	}
}

// moments are right ones: all with small numbers, and the edges.
func moments() []api.Rat {
	l := edges()
	for d := 1; d <= 6; d++ {
		for n := -13; n <= 13; n++ {
			l = append(l, x(n, d))
		}
	}
	return l
}

// wrongs are no moments: just outside the limits, and at the ends of int.
func wrongs() []api.Rat {
	l := []api.Rat{
		{}, x(1, 0), x(0, -1), x(1, -1), x(6, -9), x(-6, -9), x(1, -api.MaxDen),
		x(0, api.MaxDen+1), x(1, api.MaxDen+1), x(2, 2*api.MaxDen),
		x(api.MaxNum+1, 1), x(-api.MaxNum-1, 1), x(2*api.MaxNum, 2), x(-2*api.MaxNum, 2),
		x(api.MaxNum+1, api.MaxDen), x(api.MaxNum+1, 0), x(-api.MaxNum-1, api.MaxDen+1),
	}
	ends := []int{math.MinInt, math.MinInt + 1, math.MaxInt}
	for _, a := range ends {
		l = append(l, x(a, 1), x(a, 0), x(0, a), x(1, a))
		for _, b := range ends {
			l = append(l, x(a, b))
		}
	}
	return l
}

func worth(a api.Rat) *big.Rat { return big.NewRat(int64(a.Num), int64(a.Den)) }

func TestRight(t *testing.T) {
	for _, a := range moments() {
		if !Right(a) {
			t.Error(a, "is right")
		}
	}
	for _, a := range wrongs() {
		if Right(a) {
			t.Error(a, "is not right")
		}
	}
}

func TestCmp(t *testing.T) {
	for _, c := range []struct {
		a, b api.Rat
		want int
	}{
		{x(1, 2), x(2, 4), 0}, {x(1, 3), x(1, 2), -1}, {x(1, 2), x(1, 3), 1}, {x(-1, 2), x(-1, 3), -1},
		{x(0, 1), x(0, api.MaxDen), 0}, {x(1024, 1), x(api.MaxNum, api.MaxDen), 0}, {x(-api.MaxNum, 1), x(api.MaxNum, 1), -1},
		{x(api.MaxNum, api.MaxDen), x(api.MaxNum, api.MaxDen-1), -1}, {x(-api.MaxNum, api.MaxDen), x(-api.MaxNum, api.MaxDen-1), 1},
		{x(1, 0), x(1, 2), 0}, {x(1, 2), x(1, -2), 0}, {x(5, 1), x(api.MaxNum+1, 1), 0},
	} {
		if got := Cmp(c.a, c.b); got != c.want {
			t.Error("Cmp", c.a, c.b, got, "not", c.want)
		}
	}
	l := moments()
	for _, a := range l {
		for _, b := range l {
			if got, want := Cmp(a, b), worth(a).Cmp(worth(b)); got != want {
				t.Error("Cmp", a, b, got, "not", want)
			}
		}
	}
}

func TestLeast(t *testing.T) {
	for _, c := range [][2]api.Rat{
		{x(-6, 9), x(-2, 3)}, {x(6, 9), x(2, 3)}, {x(2, 4), x(1, 2)}, {x(3, 5), x(3, 5)}, {x(0, 7), x(0, 1)}, {x(0, api.MaxDen), x(0, 1)},
		{x(api.MaxNum, api.MaxDen), x(1024, 1)}, {x(-api.MaxNum, api.MaxDen), x(-1024, 1)}, {x(api.MaxDen-1, api.MaxDen), x(1023, 1024)},
	} {
		if got := Least(c[0]); got != c[1] {
			t.Error("Least", c[0], got, "not", c[1])
		}
	}
	for _, a := range moments() {
		want := x(int(worth(a).Num().Int64()), int(worth(a).Denom().Int64()))
		if got := Least(a); got != want || Cmp(got, a) != 0 {
			t.Error("Least", a, got, "not", want)
		}
	}
	for _, a := range wrongs() {
		if got := Least(a); got != a {
			t.Error("Least", a, got)
		}
	}
}

func TestMax(t *testing.T) {
	l := moments()
	for _, a := range l {
		for _, b := range l {
			want := a
			if worth(b).Cmp(worth(a)) > 0 {
				want = b
			}
			if got := Max(a, b); got != want {
				t.Error("Max", a, b, got, "not", want)
			}
		}
	}
}

func TestBetween(t *testing.T) {
	for _, c := range []struct {
		a, b, want api.Rat
		ok         bool
	}{
		{x(0, 1), x(1, 1), x(1, 2), true},
		{x(0, 3), x(4, 4), x(1, 2), true},
		{x(0, 1), x(2, 1), x(2, 2), true}, // as the sums are, not with the least Den
		{x(-1, 2), x(-1, 3), x(-2, 5), true},
		{x(1, 1), x(1, 1), x(0, 0), false},
		{x(1, 2), x(2, 4), x(0, 0), false},
		{x(1, 1), x(0, 1), x(0, 0), false},
		{x(0, 1), x(1, 1023), x(1, 1024), true},
		{x(0, api.MaxDen), x(1, 1023), x(1, 1024), true},
		{x(0, 1), x(1, 1024), x(0, 0), false},
		{x(1, 513), x(1, 511), x(2, 1024), true},
		{x(1, 513), x(1, 512), x(0, 0), false},
		{x(api.MaxNum/2-1, 1), x(api.MaxNum/2, 1), x(api.MaxNum-1, 2), true},
		{x(api.MaxNum/2-1, 1), x(api.MaxNum/2+1, 1), x(api.MaxNum, 2), true},
		{x(api.MaxNum/2, 1), x(api.MaxNum/2+1, 1), x(0, 0), false},
		{x(-api.MaxNum/2-1, 1), x(-api.MaxNum/2+1, 1), x(-api.MaxNum, 2), true},
		{x(-api.MaxNum/2-1, 1), x(-api.MaxNum/2, 1), x(0, 0), false},
		{x(-api.MaxNum, 1), x(api.MaxNum, 1), x(0, 2), true},
		{x(-api.MaxNum, api.MaxDen), x(api.MaxNum, api.MaxDen), x(0, 2), true},
		{x(api.MaxNum-1, 1), x(api.MaxNum, 1), x(0, 0), false},
	} {
		if got, ok := Between(c.a, c.b); got != c.want || ok != c.ok {
			t.Error("Between", c.a, c.b, got, ok, "not", c.want, c.ok)
		}
	}
}

func TestAfter(t *testing.T) {
	for _, c := range []struct {
		a, want api.Rat
		ok      bool
	}{
		{x(-1, 2), x(0, 1), true}, {x(3, 1), x(4, 1), true}, {x(-3, 2), x(-1, 1), true}, {x(-2, 1), x(-1, 1), true},
		{x(-4, 2), x(-1, 1), true}, {x(5, 2), x(3, 1), true}, {x(6, 2), x(4, 1), true}, {x(0, 1), x(1, 1), true}, {x(0, 7), x(1, 1), true},
		{x(1, api.MaxDen), x(1, 1), true}, {x(-1, api.MaxDen), x(0, 1), true}, {x(api.MaxNum, api.MaxDen), x(1025, 1), true},
		{x(-api.MaxNum, api.MaxDen), x(-1023, 1), true}, {x(-api.MaxNum, 1), x(-api.MaxNum+1, 1), true},
		{x(api.MaxNum-1, 1), x(api.MaxNum, 1), true}, {x(api.MaxNum, 1), x(0, 0), false},
	} {
		if got, ok := After(c.a); got != c.want || ok != c.ok {
			t.Error("After", c.a, got, ok, "not", c.want, c.ok)
		}
	}
}

func TestWrong(t *testing.T) {
	for _, w := range wrongs() {
		if got, ok := After(w); ok || got != (api.Rat{}) {
			t.Error("After", w, got, ok)
		}
		for _, a := range append(edges(), wrongs()...) {
			refused(t, a, w)
			refused(t, w, a)
		}
	}
}

// refused looks at two of which one at least isn't right.
func refused(t *testing.T, a, b api.Rat) {
	t.Helper()
	if Cmp(a, b) != 0 || Max(a, b) != a {
		t.Error(a, b, Cmp(a, b), Max(a, b))
	}
	if got, ok := Between(a, b); ok || got != (api.Rat{}) {
		t.Error("Between", a, b, got, ok)
	}
}

func TestOrder(t *testing.T) {
	l := moments()
	for _, a := range l {
		for _, b := range l {
			ab := Cmp(a, b)
			if ab != -Cmp(b, a) || (ab == 0) != (Least(a) == Least(b)) {
				t.Fatal(a, b, "are not held against each other alike both ways")
			}
			for _, c := range l {
				if ab <= 0 && Cmp(b, c) <= 0 && Cmp(a, c) > 0 {
					t.Fatal(a, b, c, "go round")
				}
			}
		}
	}
}

func TestLiesBetweenAndBehind(t *testing.T) {
	l := moments()
	for _, a := range l {
		m, ok := After(a)
		if ok && (!Right(m) || m.Den != 1 || Cmp(a, m) != -1 || worth(x(m.Num-1, 1)).Cmp(worth(a)) > 0) {
			t.Error("After", a, m)
		}
		if !ok && worth(a).Cmp(worth(x(api.MaxNum, 1))) < 0 {
			t.Error("After", a, "is missing")
		}
		for _, b := range l {
			between(t, a, b)
		}
	}
}

// between holds Between against its own words, in numbers without bounds.
func between(t *testing.T, a, b api.Rat) {
	t.Helper()
	m, ok := Between(a, b)
	p, q := worth(a), worth(b)
	want := x(int(p.Num().Int64()+q.Num().Int64()), int(p.Denom().Int64()+q.Denom().Int64()))
	if p.Cmp(q) >= 0 || !Right(want) {
		if ok || m != (api.Rat{}) {
			t.Error("Between", a, b, m, ok)
		}
		return
	}
	if !ok || m != want || Cmp(a, m) != -1 || Cmp(m, b) != -1 {
		t.Error("Between", a, b, m, ok, "not", want)
	}
}
