package rel

import (
	"math"
	"slices"
	"testing"

	"selvage/api"
)

// grid is a relation told at length: what the calls are held against.
type grid struct {
	n  int
	at [api.MaxNodes][api.MaxNodes]bool
}

func gridOf(r api.Rel) *grid {
	g := &grid{n: min(len(r), api.MaxNodes)}
	for i := range g.n {
		for k := range g.n {
			g.at[i][k] = r[i]>>k&1 == 1
		}
	}
	return g
}

// made is a grid of n, each place of which is asked for.
func made(n int, is func(i, k int) bool) *grid {
	g := &grid{n: n}
	for i := range n {
		for k := range n {
			g.at[i][k] = is(i, k)
		}
	}
	return g
}

func (g *grid) rel() api.Rel {
	r := make(api.Rel, g.n)
	for i := range g.n {
		for k := range g.n {
			if g.at[i][k] {
				r[i] += power(k)
			}
		}
	}
	return r
}

// power is 2 to the k, worked out otherwise than the package does.
func power(k int) uint64 {
	p := uint64(1)
	for range k {
		p *= 2
	}
	return p
}

// ways asks, from each place on, where one comes by a step or more.
func (g *grid) ways() *grid {
	all := &grid{n: g.n}
	for i := range g.n {
		all.at[i] = g.reach(i)
	}
	return all
}

func (g *grid) reach(i int) (seen [api.MaxNodes]bool) {
	todo := []int{i}
	for len(todo) > 0 {
		at := todo[0]
		todo = todo[1:]
		for k := range g.n {
			if g.at[at][k] && !seen[k] {
				seen[k] = true
				todo = append(todo, k)
			}
		}
	}
	return seen
}

// order takes P2.4 by its words.
func (g *grid) order() ([]int, bool) {
	var list []int
	all := numbers(g.n)
	for len(list) < g.n {
		i := slices.IndexFunc(all, func(i int) bool {
			return !slices.Contains(list, i) && !slices.ContainsFunc(all, func(k int) bool {
				return g.at[k][i] && !slices.Contains(list, k)
			})
		})
		if i < 0 {
			return nil, false
		}
		list = append(list, i)
	}
	return list, true
}

func numbers(n int) []int {
	l := make([]int, n)
	for i := range l {
		l[i] = i
	}
	return l
}

// dice are numbers that look like chance and are the same each time.
type dice uint64

func (d *dice) next() uint64 {
	*d = *d*6364136223846793005 + 1442695040888963407
	x := uint64(*d)
	return (x ^ x>>33) * 0xff51afd7ed558ccd
}

// tiny are all relations of up to 3.
func tiny() []api.Rel {
	var l []api.Rel
	for n := range 4 {
		for all := range 1 << (n * n) {
			r := make(api.Rel, n)
			for i := range r {
				r[i] = uint64(all >> (i * n) & (1<<n - 1))
			}
			l = append(l, r)
		}
	}
	return l
}

// thrown are relations of many sizes: some full, some with few pairs, some without a ring, some with bits and rows too many.
func thrown() []api.Rel {
	var d dice = 1
	l := []api.Rel{nil, {}, {math.MaxUint64}, {2}, {math.MaxUint64 - 1, 0}}
	for _, n := range []int{1, 2, 4, 5, 8, 13, 31, 32, 33, 62, 63, 64, 65, 66, 70, 128} {
		full := make(api.Rel, n)
		chain, late := make(api.Rel, n), make(api.Rel, n)
		for i := range n {
			full[i] = math.MaxUint64
			chain[i] = uint64(1) << ((i + 1) % 64)
			late[i] = 1 << 63
		}
		l = append(l, make(api.Rel, n), full, chain, chain[:n-1:n-1], late)
		for few := range 7 {
			any, down := make(api.Rel, n), make(api.Rel, n)
			for i := range n {
				any[i] = math.MaxUint64
				for range few {
					any[i] &= d.next()
				}
				down[i] = any[i] & (1<<min(i, 63) - 1)
			}
			l = append(l, any, down)
		}
	}
	return l
}

func all() []api.Rel { return append(tiny(), thrown()...) }

// spare is a relation of its own with room behind its end that must stay as it is.
func spare(r api.Rel) api.Rel {
	own := make(api.Rel, len(r)+3)
	copy(own, r)
	copy(own[len(r):], api.Rel{7, 8, 9})
	return own[:len(r)]
}

func stays(t *testing.T, what string, own, r api.Rel) {
	t.Helper()
	if !slices.Equal(own, r) || !slices.Equal(own[len(own):len(own)+3], api.Rel{7, 8, 9}) {
		t.Fatal(what, "changed", r, "to", own[:len(own)+3])
	}
}

// one holds a call of one relation against its grid: its answer, that it is new memory, and that what came in stays.
func one(t *testing.T, what string, call func(api.Rel) api.Rel, r api.Rel, want *grid) {
	t.Helper()
	own := spare(r)
	got := call(own)
	if !slices.Equal(got, want.rel()) {
		t.Fatal(what, r, got, "not", want.rel())
	}
	stays(t, what, own, r)
	for i := range got {
		got[i] ^= 5
	}
	stays(t, what, own, r)
}

// two does so of a call of two relations.
func two(t *testing.T, what string, call func(a, b api.Rel) api.Rel, a, b api.Rel, want *grid) {
	t.Helper()
	p, q := spare(a), spare(b)
	got := call(p, q)
	if !slices.Equal(got, want.rel()) {
		t.Fatal(what, a, b, got, "not", want.rel())
	}
	for i := range got {
		got[i] ^= 5
	}
	stays(t, what, p, a)
	stays(t, what, q, b)
	if same := call(p, p); !slices.Equal(same, call(a, slices.Clone(a))) {
		t.Fatal(what, a, "with itself", same)
	}
}

func TestOf(t *testing.T) {
	for _, c := range []struct {
		n     int
		pairs [][2]int
		want  api.Rel
		e     api.Errno
	}{
		{0, nil, nil, api.OK},
		{1, [][2]int{{0, 0}}, api.Rel{1}, api.OK},
		{3, nil, api.Rel{0, 0, 0}, api.OK},
		{3, [][2]int{{0, 1}, {1, 2}}, api.Rel{2, 4, 0}, api.OK},
		{3, [][2]int{{2, 0}, {2, 1}, {2, 0}, {2, 2}}, api.Rel{0, 0, 7}, api.OK},
		{64, [][2]int{{63, 63}, {63, 0}, {63, 31}}, append(make(api.Rel, 63), 1<<63|1<<31|1), api.OK},
		{64, [][2]int{{0, 63}}, append(api.Rel{1 << 63}, make(api.Rel, 63)...), api.OK},
		{-1, nil, nil, api.ErrArg}, {65, nil, nil, api.ErrArg}, {math.MaxInt, nil, nil, api.ErrArg}, {math.MinInt, nil, nil, api.ErrArg},
		{-1, [][2]int{{0, 0}}, nil, api.ErrArg}, {65, [][2]int{{65, -1}}, nil, api.ErrArg},
		{0, [][2]int{{0, 0}}, nil, api.ErrRange}, {2, [][2]int{{0, 2}}, nil, api.ErrRange}, {2, [][2]int{{2, 0}}, nil, api.ErrRange},
		{2, [][2]int{{0, -1}}, nil, api.ErrRange}, {2, [][2]int{{-1, 0}}, nil, api.ErrRange}, {2, [][2]int{{0, 1}, {1, 0}, {1, 2}}, nil, api.ErrRange},
		{64, [][2]int{{64, 0}}, nil, api.ErrRange}, {64, [][2]int{{0, 64}}, nil, api.ErrRange},
		{64, [][2]int{{math.MaxInt, 0}}, nil, api.ErrRange}, {64, [][2]int{{0, math.MinInt}}, nil, api.ErrRange},
	} {
		pairs := slices.Clone(c.pairs)
		got, e := Of(c.n, pairs)
		if e != c.e || !slices.Equal(got, c.want) {
			t.Error("Of", c.n, c.pairs, got, e, "not", c.want, c.e)
		}
		if !slices.Equal(pairs, c.pairs) {
			t.Error("Of changed", c.pairs, "to", pairs)
		}
	}
}

func TestOfTellsAllPairs(t *testing.T) {
	for _, r := range all() {
		g := gridOf(r)
		var pairs [][2]int
		for i := range g.n {
			for k := range g.n {
				if g.at[i][k] {
					pairs = append(pairs, [2]int{i, k})
				}
			}
		}
		if got, e := Of(g.n, pairs); e != api.OK || !slices.Equal(got, g.rel()) {
			t.Fatal("Of", g.n, pairs, got, e)
		}
	}
}

func TestHas(t *testing.T) {
	outside := []int{math.MinInt, -65, -64, -1, 64, 65, 127, 128, math.MaxInt}
	for _, r := range all() {
		g := gridOf(r)
		own := spare(r)
		for i := range api.MaxNodes + 6 {
			for k := range api.MaxNodes + 6 {
				want := i < g.n && k < g.n && g.at[i][k]
				if Has(own, i, k) != want {
					t.Fatal("Has", r, i, k, "not", want)
				}
			}
			for _, o := range outside {
				if Has(own, i, o) || Has(own, o, i) || Has(own, o, o) {
					t.Fatal("Has", r, i, o)
				}
			}
		}
		stays(t, "Has", own, r)
	}
}

func TestUnionInterMinus(t *testing.T) {
	if got := Union(api.Rel{255}, api.Rel{0, 3}); !slices.Equal(got, api.Rel{1, 3}) {
		t.Error("Union", got)
	}
	if got := Minus(api.Rel{3, 3}, api.Rel{255}); !slices.Equal(got, api.Rel{2, 3}) {
		t.Error("Minus", got)
	}
	if got := Inter(api.Rel{3, 3}, api.Rel{255}); !slices.Equal(got, api.Rel{1, 0}) {
		t.Error("Inter", got)
	}
	pairs(func(a, b api.Rel) {
		p, q := gridOf(a), gridOf(b)
		n := max(p.n, q.n)
		two(t, "Union", Union, a, b, made(n, func(i, k int) bool { return p.at[i][k] || q.at[i][k] }))
		two(t, "Inter", Inter, a, b, made(n, func(i, k int) bool { return p.at[i][k] && q.at[i][k] }))
		two(t, "Minus", Minus, a, b, made(n, func(i, k int) bool { return p.at[i][k] && !q.at[i][k] }))
	})
}

// pairs goes through relations two by two, of like lengths and unlike.
func pairs(do func(a, b api.Rel)) {
	l := tiny()
	for i, a := range l {
		for k := i % 7; k < len(l); k += 7 {
			do(a, l[k])
		}
	}
	for i, a := range thrown() {
		for k, b := range thrown() {
			if (i+k)%23 == 0 {
				do(a, b)
			}
		}
	}
}

func TestThen(t *testing.T) {
	if got := Then(api.Rel{2, 4, 0}, api.Rel{2, 4, 0}); !slices.Equal(got, api.Rel{4, 0, 0}) {
		t.Error("Then", got)
	}
	if got := Then(api.Rel{3, 1}, api.Rel{255}); !slices.Equal(got, api.Rel{1, 1}) {
		t.Error("Then", got)
	}
	pairs(func(a, b api.Rel) {
		p, q := gridOf(a), gridOf(b)
		middle := numbers(p.n)
		two(t, "Then", Then, a, b, made(max(p.n, q.n), func(i, k int) bool {
			return slices.ContainsFunc(middle, func(j int) bool { return p.at[i][j] && q.at[j][k] })
		}))
	})
}

func TestBack(t *testing.T) {
	if got := Back(api.Rel{2, 4, 0}); !slices.Equal(got, api.Rel{0, 1, 2}) {
		t.Error("Back", got)
	}
	for _, r := range all() {
		g := gridOf(r)
		one(t, "Back", Back, r, made(g.n, func(i, k int) bool { return g.at[k][i] }))
	}
}

func TestPlusStar(t *testing.T) {
	if got := Star(api.Rel{2, 4, 0}); !slices.Equal(got, api.Rel{7, 6, 4}) {
		t.Error("Star", got)
	}
	if got := Plus(api.Rel{2, 4, 0}); !slices.Equal(got, api.Rel{6, 4, 0}) {
		t.Error("Plus", got)
	}
	for _, r := range all() {
		ways := gridOf(r).ways()
		one(t, "Plus", Plus, r, ways)
		one(t, "Star", Star, r, made(ways.n, func(i, k int) bool { return i == k || ways.at[i][k] }))
	}
}

func TestRing(t *testing.T) {
	for _, c := range []struct {
		r    api.Rel
		want bool
	}{
		{nil, false}, {api.Rel{0}, false}, {api.Rel{1}, true}, {api.Rel{2}, false}, {api.Rel{2, 4, 0}, false}, {api.Rel{2, 4, 1}, true}, {api.Rel{0, 0, 4}, true},
		{append(make(api.Rel, 63), 1<<63), true}, {append(make(api.Rel, 64), math.MaxUint64), false},
	} {
		if Ring(c.r) != c.want {
			t.Error("Ring", c.r, "not", c.want)
		}
	}
	for _, r := range all() {
		ways := gridOf(r).ways()
		want := slices.ContainsFunc(numbers(ways.n), func(i int) bool { return ways.at[i][i] })
		own := spare(r)
		if Ring(own) != want {
			t.Fatal("Ring", r, "not", want)
		}
		stays(t, "Ring", own, r)
	}
}

func TestOrder(t *testing.T) {
	for _, c := range []struct {
		r    api.Rel
		want []int
		ok   bool
	}{
		{nil, nil, true}, {api.Rel{0}, []int{0}, true}, {api.Rel{2, 4, 0}, []int{0, 1, 2}, true}, {api.Rel{0, 0, 1}, []int{1, 2, 0}, true},
		{api.Rel{0, 0, 3, 0}, []int{2, 0, 1, 3}, true}, {api.Rel{0, 0, 2, 1}, []int{2, 1, 3, 0}, true},
		{api.Rel{254}, []int{0}, true}, {api.Rel{2, 4, 1}, nil, false}, {api.Rel{1}, nil, false}, {api.Rel{0, 2, 0}, nil, false}, {api.Rel{0, 0, 4}, nil, false},
	} {
		if got, ok := Order(c.r); ok != c.ok || !slices.Equal(got, c.want) {
			t.Error("Order", c.r, got, ok, "not", c.want, c.ok)
		}
	}
	for _, r := range all() {
		want, wantOk := gridOf(r).order()
		own := spare(r)
		got, ok := Order(own)
		if ok != wantOk || !slices.Equal(got, want) {
			t.Fatal("Order", r, got, ok, "not", want, wantOk)
		}
		stays(t, "Order", own, r)
	}
}

func TestOrderJustWithoutRing(t *testing.T) {
	orders := 0
	for _, r := range all() {
		list, ok := Order(r)
		if ok == Ring(r) {
			t.Fatal("Order", r, ok, "Ring", Ring(r))
		}
		if !ok {
			continue
		}
		orders++
		if l := slices.Sorted(slices.Values(list)); !slices.Equal(l, numbers(min(len(r), api.MaxNodes))) {
			t.Fatal("Order", r, list, "has not all, each once")
		}
		for p, i := range list {
			for _, k := range list[:p+1] {
				if Has(r, i, k) {
					t.Fatal("Order", r, list, i, "stands to", k)
				}
			}
		}
	}
	if orders < 100 {
		t.Error(orders, "orders are too few to tell")
	}
}
