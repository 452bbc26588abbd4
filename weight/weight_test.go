package weight

import (
	"math"
	"math/big"
	"math/rand"
	"slices"
	"testing"
)

var negZero = math.Copysign(0, -1)

// nans are unlike in their bits: quiet and signalling, of both signs, with little and with much in them.
func nans() []float64 {
	l := []float64{math.NaN()}
	for _, b := range []uint64{
		0x7ff0000000000001, 0x7ff7ffffffffffff, 0x7ff8000000000000, 0x7fffffffffffffff,
		0xfff0000000000001, 0xfff7ffffffffffff, 0xfff8000000000000, 0xffffffffffffffff,
	} {
		l = append(l, math.Float64frombits(b))
	}
	return l
}

// numbers are floats that aren't NaN, each ahead of the next.
func numbers() []float64 {
	return []float64{
		math.Inf(-1), -math.MaxFloat64, -0x1p63, -3, -2, math.Nextafter(-1, -2), -1, math.Nextafter(-1, 0), -0.5,
		-0x1p-1022, -0x1p-1023, -math.SmallestNonzeroFloat64,
		negZero, 0,
		math.SmallestNonzeroFloat64, 0x1p-1023, 0x1p-1022, 0.5, math.Nextafter(1, 0), 1, math.Nextafter(1, 2), 2, 3,
		0x1p63, math.MaxFloat64, math.Inf(1),
	}
}

func all() []float64 { return append(nans(), numbers()...) }

// rank is where a float stands, told by its bits alone: 0 for each NaN, and what is greater stands behind.
func rank(f float64) uint64 {
	b := math.Float64bits(f)
	switch {
	case b&(1<<63-1) > 0x7ff0000000000000:
		return 0
	case b>>63 == 1:
		return ^b
	}
	return b | 1<<63
}

func same(a, b float64) bool { return rank(a) == rank(b) }

func bitsOf(l []float64) []uint64 {
	var out []uint64
	for _, f := range l {
		out = append(out, math.Float64bits(f))
	}
	return out
}

// TestRank: what the other tests are held against is itself held against the list that is written out.
func TestRank(t *testing.T) {
	l := numbers()
	for i := range l {
		for k := range l {
			if rank(l[i]) < rank(l[k]) != (i < k) {
				t.Error(l[i], l[k])
			}
		}
	}
	for _, n := range nans() {
		if n == n || rank(n) != 0 {
			t.Error(math.Float64bits(n))
		}
	}
}

func TestOfExamples(t *testing.T) {
	inf, nan := math.Inf(1), math.NaN()
	for _, c := range []struct {
		uses, length int
		want         float64
	}{
		{1, 2, 0.5}, {1, 1, 1}, {3, 1, 3}, {2, 4, 0.5}, {7, 2, 3.5}, {1, 3, 1.0 / 3}, {2, 3, 2.0 / 3}, {1, 10, 0.1},
		{-1, 2, -0.5}, {1, -2, -0.5}, {-1, -2, 0.5}, {-7, -2, 3.5},
		{0, 1, 0}, {0, 9, 0}, {0, math.MaxInt, 0}, {0, -1, negZero}, {0, math.MinInt, negZero},
		{0, 0, nan},
		{1, 0, inf}, {3, 0, inf}, {math.MaxInt, 0, inf}, {-1, 0, -inf}, {-3, 0, -inf}, {math.MinInt, 0, -inf},
		// Both are floats ahead of being divided: what an int has and a float has not is gone.
		{1<<53 + 1, 1, 1 << 53}, {1 << 53, 1<<53 + 1, 1}, {math.MaxInt, 1, 0x1p63}, {math.MaxInt, math.MaxInt - 1, 1},
		{math.MinInt, 1, -0x1p63}, {math.MinInt, -1, 0x1p63}, {math.MinInt, math.MaxInt, -1}, {1, math.MinInt, -0x1p-63},
		{math.MaxInt, 1 << 53, 1024},
	} {
		if got := Of(c.uses, c.length); !same(got, c.want) {
			t.Errorf("Of(%d, %d) = %v, not %v", c.uses, c.length, got, c.want)
		}
	}
}

// quotient of two that are floats first, each rounded to the nearest one, worked out by fractions.
func quotient(uses, length int) float64 {
	a, _ := new(big.Float).SetInt64(int64(uses)).Float64()
	b, _ := new(big.Float).SetInt64(int64(length)).Float64()
	f, _ := new(big.Rat).Quo(new(big.Rat).SetFloat64(a), new(big.Rat).SetFloat64(b)).Float64()
	if uses == 0 && length < 0 {
		return negZero
	}
	return f
}

func TestOfDivides(t *testing.T) {
	for uses := -20; uses <= 20; uses++ {
		for length := -20; length <= 20; length++ {
			if length != 0 && !same(Of(uses, length), quotient(uses, length)) {
				t.Error(uses, length, Of(uses, length))
			}
		}
	}
	r := rand.New(rand.NewSource(1))
	for range 20000 {
		uses, length := int(int64(r.Uint64())>>r.Intn(64)), int(int64(r.Uint64())>>r.Intn(64))
		if length != 0 && !same(Of(uses, length), quotient(uses, length)) {
			t.Error(uses, length, Of(uses, length))
		}
	}
}

func TestLessExamples(t *testing.T) {
	nan, inf := math.NaN(), math.Inf(1)
	for _, p := range [][2]float64{{nan, -inf}, {nan, inf}, {nan, 0}, {-inf, -math.MaxFloat64}, {-1, negZero}, {negZero, 0}, {0, 1}, {1, 2}, {math.MaxFloat64, inf}} {
		if !Less(p[0], p[1]) {
			t.Error(p[0], "stands ahead of", p[1])
		}
		if Less(p[1], p[0]) {
			t.Error(p[1], "doesn't stand ahead of", p[0])
		}
	}
	for _, f := range all() {
		if Less(f, f) {
			t.Error(f, "stands ahead of itself")
		}
	}
}

// TestLessIsTheOrder holds each two of the edges, and of floats of any bits, against their ranks; and of the three of P3.3 just one holds.
func TestLessIsTheOrder(t *testing.T) {
	l := all()
	r := rand.New(rand.NewSource(2))
	for range 300 {
		l = append(l, math.Float64frombits(r.Uint64()))
	}
	for _, a := range l {
		for _, b := range l {
			ahead, behind := Less(a, b), Less(b, a)
			alike := math.Float64bits(a) == math.Float64bits(b) || math.IsNaN(a) && math.IsNaN(b)
			if ahead != (rank(a) < rank(b)) {
				t.Errorf("Less(%v, %v) = %v", a, b, ahead)
			}
			if ahead && behind || ahead && alike || behind && alike || !(ahead || behind || alike) {
				t.Errorf("of %v and %v: ahead %v, behind %v, alike %v", a, b, ahead, behind, alike)
			}
		}
	}
}

// firstLeast: the place of the first one ahead of which none stands, as the words say it.
func firstLeast(l []float64) int {
	for i, a := range l {
		if !slices.ContainsFunc(l, func(b float64) bool { return rank(b) < rank(a) }) {
			return i
		}
	}
	return -1
}

// middle: of so many as stand ahead of it or are alike the place len / 2 is one.
func middle(l []float64) float64 {
	for _, a := range l {
		ahead, alike := 0, 0
		for _, b := range l {
			if rank(b) < rank(a) {
				ahead++
			} else if rank(b) == rank(a) {
				alike++
			}
		}
		if ahead <= len(l)/2 && len(l)/2 < ahead+alike {
			return a
		}
	}
	return math.NaN()
}

func TestLeastExamples(t *testing.T) {
	nan, inf := math.NaN(), math.Inf(1)
	for _, c := range []struct {
		l    []float64
		want int
	}{
		{nil, -1}, {[]float64{}, -1}, {make([]float64, 0, 3), -1},
		{[]float64{7}, 0}, {[]float64{nan}, 0}, {[]float64{inf}, 0},
		{[]float64{1, nan, -inf}, 1}, {[]float64{0, negZero}, 1}, {[]float64{negZero, 0}, 0}, {[]float64{2, 2}, 0},
		{[]float64{3, 2, 2, 3}, 1}, {[]float64{3, 1, 2, 1}, 1}, {[]float64{inf, inf}, 0}, {[]float64{inf, math.MaxFloat64}, 1},
		{[]float64{0, 0, negZero, negZero}, 2}, {[]float64{5, nan, nans()[5], nan}, 1}, {[]float64{nan, -inf}, 0}, {[]float64{3, 2, 1, -inf}, 3},
	} {
		if got := Least(c.l); got != c.want {
			t.Errorf("Least(%v) = %d, not %d", c.l, got, c.want)
		}
	}
}

func TestMiddleExamples(t *testing.T) {
	nan, inf := math.NaN(), math.Inf(1)
	for _, c := range []struct {
		l    []float64
		want float64
	}{
		{nil, nan}, {[]float64{}, nan}, {make([]float64, 0, 3), nan},
		{[]float64{7}, 7}, {[]float64{nan}, nan}, {[]float64{inf}, inf}, {[]float64{negZero}, negZero},
		{[]float64{3, 1, 2}, 2}, {[]float64{1, 2}, 2}, {[]float64{2, 1}, 2}, {[]float64{4, 1, 3, 2}, 3}, {[]float64{5, 4, 3, 2, 1}, 3},
		{[]float64{2, 2}, 2}, {[]float64{2, 2, 1}, 2}, {[]float64{1, 1, 2, 2}, 2}, {[]float64{1, 1, 1, 2}, 1}, {[]float64{2, 2, 9, 9, 9}, 9},
		{[]float64{0, negZero}, 0}, {[]float64{negZero, 0}, 0}, {[]float64{0, negZero, negZero}, negZero}, {[]float64{0, negZero, 0}, 0},
		{[]float64{nan, 1}, 1}, {[]float64{1, nan}, 1}, {[]float64{1, nan, nan}, nan}, {[]float64{1, nan, 2}, 1}, {[]float64{nan, -inf, inf}, -inf},
		{[]float64{inf, -inf}, inf}, {[]float64{inf, nan, 5, -inf}, 5},
	} {
		if got := Middle(c.l); !same(got, c.want) {
			t.Errorf("Middle(%v) = %v, not %v", c.l, got, c.want)
		}
	}
}

// lists: all of up to 4 out of a few, and longer ones with alike ones in them.
func lists() [][]float64 {
	few := []float64{math.NaN(), nans()[5], math.Inf(-1), -1, negZero, 0, 1, math.Inf(1)}
	out := [][]float64{{}}
	for from, long := 0, 0; long < 4; long++ {
		to := len(out)
		for _, l := range out[from:to] {
			for _, f := range few {
				out = append(out, append(slices.Clone(l), f))
			}
		}
		from = to
	}
	r := rand.New(rand.NewSource(3))
	edges := all()
	for long := range 120 {
		l := make([]float64, long)
		for i := range l {
			switch r.Intn(3) {
			case 0:
				l[i] = edges[r.Intn(len(edges))]
			case 1:
				l[i] = float64(r.Intn(5))
			default:
				l[i] = math.Float64frombits(r.Uint64())
			}
		}
		out = append(out, l)
	}
	return out
}

func TestLeastAndMiddle(t *testing.T) {
	for _, l := range lists() {
		if got, want := Least(l), firstLeast(l); got != want {
			t.Errorf("Least(%v) = %d, not %d", l, got, want)
		}
		if got, want := Middle(l), middle(l); !same(got, want) {
			t.Errorf("Middle(%v) = %v, not %v", l, got, want)
		}
	}
}

// TestListsStay: what is handed in is the same behind a call, bit by bit, and so is what lies in its spare room.
func TestListsStay(t *testing.T) {
	for _, l := range lists() {
		room := append(slices.Clone(l), 9, negZero, math.NaN(), -9)
		was := bitsOf(room)
		part := room[:len(l)]
		least, mid := Least(part), Middle(part)
		if !slices.Equal(bitsOf(room), was) {
			t.Fatalf("%v has become %v", l, room)
		}
		if Least(part) != least || math.Float64bits(Middle(part)) != math.Float64bits(mid) {
			t.Errorf("%v is answered otherwise when it is asked again", l)
		}
	}
}

// TestLong: a list that is long, in order or against it, is answered as well.
func TestLong(t *testing.T) {
	for _, long := range []int{99999, 100000} {
		up, down := make([]float64, long), make([]float64, long)
		for i := range long {
			up[i], down[long-1-i] = float64(i), float64(i)
		}
		if Least(up) != 0 || Least(down) != long-1 {
			t.Error("Least", long)
		}
		if want := float64(long / 2); Middle(up) != want || Middle(down) != want {
			t.Error("Middle", long, Middle(up), Middle(down))
		}
	}
}
