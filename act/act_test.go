package act

import (
	"math"
	"slices"
	"testing"

	"selvage/api"
)

func cell(name string, n int) api.Decl { return api.Decl{Kind: api.Cell, Name: name, N: n} }
func atom(name string, n int) api.Decl { return api.Decl{Kind: api.Atom, Name: name, N: n} }
func row(name string, n int) api.Decl  { return api.Decl{Kind: api.Row, Name: name, N: n} }

// odd is a declaration of a kind that is none.
func odd(kind int, name string, n int) api.Decl { return api.Decl{Kind: kind, Name: name, N: n} }

func plain(n int64) api.Loc  { return api.Loc{Init: n} }
func atomic(n int64) api.Loc { return api.Loc{Atomic: true, Init: n} }

// empty are n locations of a row.
func empty(n int) []api.Loc { return make([]api.Loc, n) }

// kinds are the declarations' kinds, and what is none on both sides of them and far away.
func kinds() []int {
	return []int{math.MinInt, -7, -1, 0, api.Cell, api.Atom, api.Row, 4, 5, 257, 1 << 32, 1<<32 + api.Atom, 1<<32 + api.Row, math.MaxInt}
}

// sizes are what a declaration's N may be: the edges of rows and of locations, and beyond.
func sizes() []int {
	return []int{math.MinInt, -1 << 32, -17, -1, 0, 1, 2, 7, 8, 9, 15, 16, 17, 18, 100, 999999999, 1 << 31, 1 << 32, math.MaxInt}
}

func TestLayoutExamples(t *testing.T) {
	for _, c := range []struct {
		name string
		l    []api.Decl
		want []api.Loc
	}{
		{"nil", nil, nil},
		{"none", []api.Decl{}, nil},
		{"the chapter's", []api.Decl{cell("x", 5), row("v", 2), atom("a", 1)}, []api.Loc{plain(5), plain(0), plain(0), atomic(1)}},
		{"a cell", []api.Decl{cell("x", 7)}, []api.Loc{plain(7)}},
		{"an atom", []api.Decl{atom("x", 7)}, []api.Loc{atomic(7)}},
		{"below 0", []api.Decl{atom("a", -1), cell("x", -7), atom("b", math.MinInt)}, []api.Loc{atomic(-1), plain(-7), atomic(math.MinInt64)}},
		{"great", []api.Decl{cell("x", math.MaxInt), atom("a", 1<<32)}, []api.Loc{plain(math.MaxInt64), atomic(1 << 32)}},
		{"row of 0", []api.Decl{row("v", 0)}, nil},
		{"row of -1", []api.Decl{row("v", -1)}, nil},
		{"row of the least", []api.Decl{row("v", math.MinInt)}, nil},
		{"row of 1", []api.Decl{row("v", 1)}, empty(1)},
		{"row of 8", []api.Decl{row("v", 8)}, empty(8)},
		{"row of 9", []api.Decl{row("v", 9)}, empty(9)},
		{"row of 15", []api.Decl{row("v", 15)}, empty(15)},
		{"row of 16", []api.Decl{row("v", 16)}, empty(16)},
		{"row of 17", []api.Decl{row("v", 17)}, empty(16)},
		{"row of the most", []api.Decl{row("v", math.MaxInt)}, empty(16)},
		{"rows of the most", []api.Decl{row("v", math.MaxInt), row("w", math.MaxInt), cell("x", 1)}, empty(16)},
		{"a row that is none between", []api.Decl{cell("x", 1), row("v", -3), atom("a", 2), row("w", 0), cell("y", 3)}, []api.Loc{plain(1), atomic(2), plain(3)}},
		{"below 0 gives no room back", []api.Decl{row("v", 16), row("w", -4), atom("a", 1)}, empty(16)},
		{"just 16", []api.Decl{row("v", 8), row("w", 7), atom("a", 9)}, append(empty(15), atomic(9))},
		{"the 17th", []api.Decl{row("v", 8), row("w", 7), atom("a", 9), atom("b", 8)}, append(empty(15), atomic(9))},
		{"cut in its midst", []api.Decl{cell("x", 3), row("v", 8), atom("a", 4), row("w", 8)}, slices.Concat([]api.Loc{plain(3)}, empty(8), []api.Loc{atomic(4)}, empty(6))},
		{"cut at its first", []api.Decl{row("v", 8), row("w", 8), row("u", 8)}, empty(16)},
		{"cut at its last", []api.Decl{atom("a", 4), row("v", 8), row("w", 8)}, append([]api.Loc{atomic(4)}, empty(15)...)},
		{"names play no part", []api.Decl{cell("", 1), cell("", 2), atom("", 3)}, []api.Loc{plain(1), plain(2), atomic(3)}},
		{"kinds that are none", []api.Decl{odd(0, "x", 5), odd(4, "y", -6), odd(-1, "z", 7)}, []api.Loc{plain(5), plain(-6), plain(7)}},
	} {
		if got := Layout(c.l); !slices.Equal(got, c.want) {
			t.Errorf("%s: %v, not %v", c.name, got, c.want)
		}
	}
}

// TestLayoutOne: a declaration of any kind and N, alone and with one of each sort ahead of it and behind it.
func TestLayoutOne(t *testing.T) {
	for _, kind := range kinds() {
		for _, n := range sizes() {
			var want []api.Loc
			switch kind {
			case api.Atom:
				want = []api.Loc{atomic(int64(n))}
			case api.Row:
				want = empty(max(0, min(n, 16)))
			default:
				want = []api.Loc{plain(int64(n))}
			}
			d := odd(kind, "d", n)
			if got := Layout([]api.Decl{d}); !slices.Equal(got, want) {
				t.Errorf("%d %d: %v, not %v", kind, n, got, want)
			}
			among := slices.Concat([]api.Loc{atomic(1), plain(2)}, want, []api.Loc{atomic(3), plain(4)})
			among = among[:min(16, len(among))]
			if got := Layout([]api.Decl{atom("a", 1), cell("b", 2), d, atom("e", 3), cell("f", 4)}); !slices.Equal(got, among) {
				t.Errorf("%d %d among others: %v, not %v", kind, n, got, among)
			}
		}
	}
}

// TestLayoutMany: the first ones stay, however many there are.
func TestLayoutMany(t *testing.T) {
	for _, many := range []int{1, 2, 15, 16, 17, 18, 33, 100000} {
		var l []api.Decl
		var want []api.Loc
		for i := range many {
			l = append(l, odd(1+i%2, "x", i))
			if i < 16 {
				want = append(want, api.Loc{Atomic: i%2 == 1, Init: int64(i)})
			}
		}
		if got := Layout(l); !slices.Equal(got, want) {
			t.Error(many, got)
		}
	}
}

func TestPlaceExamples(t *testing.T) {
	l := []api.Decl{
		{Kind: api.Cell, Name: "x", N: 5, At: 3},
		{Kind: api.Row, Name: "v", N: 2, At: 14},
		{Kind: api.Atom, Name: "a", N: 1, At: 22},
		{Kind: api.Row, Name: "none", N: 0, At: 31},
		{Kind: api.Cell, Name: "b", N: 6, At: 40},
		{Kind: api.Row, Name: "less", N: -5, At: 50},
		{Kind: api.Atom, Name: "x", N: 7, At: 60},
		{Kind: api.Row, Name: "long", N: 8, At: 70},
		{Kind: 0, Name: "odd", N: 3, At: 80},
		{Kind: 9, Name: "", N: 30, At: 85},
		{Kind: api.Row, Name: "v", N: 4, At: 90},
		{Kind: api.Cell, Name: "far", N: 1, At: 95},
		{Kind: api.Row, Name: "vast", N: 1 << 40, At: 100},
		{Kind: api.Atom, Name: "behind", N: 2, At: 110},
		{Kind: api.Cell, Name: "none", N: 2, At: 120},
		{Kind: api.Row, Name: "last", N: 3, At: 130},
	}
	for _, c := range []struct {
		name      string
		which, at int
	}{
		{"x", 0, 0},
		{"v", 1, 1},
		{"a", 2, 3},
		{"none", 3, 4},
		{"b", 4, 4},
		{"less", 5, 5},
		{"long", 7, 6},
		{"odd", 8, 14},
		{"", 9, 15},
		{"far", 11, 20},
		{"vast", 12, 21},
		{"behind", 13, 21 + 1<<40},
		{"last", 15, 23 + 1<<40},
	} {
		if d, at, ok := Place(l, c.name); !ok || d != l[c.which] || at != c.at {
			t.Errorf("%q: %v %d %v, not %v %d", c.name, d, at, ok, l[c.which], c.at)
		}
	}
	for _, name := range []string{"X", "xx", "y", "lon", "longer", " x", "x ", "x\x00", "vv", "lasts", "V"} {
		if d, at, ok := Place(l, name); ok || at != 0 || d != (api.Decl{}) {
			t.Errorf("%q: %v %d %v", name, d, at, ok)
		}
	}
}

// TestPlaceNone: where nothing is declared, or nothing has no name, there is none.
func TestPlaceNone(t *testing.T) {
	for _, l := range [][]api.Decl{nil, {}, {cell("x", 1)}, {row("x", 16), atom("y", 1)}} {
		for _, name := range []string{"", "z", "cell"} {
			if d, at, ok := Place(l, name); ok || at != 0 || d != (api.Decl{}) {
				t.Errorf("%v %q: %v %d %v", l, name, d, at, ok)
			}
		}
	}
}

// TestPlaceBehind: what stands ahead is counted by its kind and N, also what lies behind the sixteenth.
func TestPlaceBehind(t *testing.T) {
	for _, kind := range kinds() {
		for _, n := range sizes() {
			want := 1
			if kind == api.Row {
				want = max(0, n)
			}
			l := []api.Decl{odd(kind, "d", n), cell("x", 3)}
			if d, at, ok := Place(l, "x"); !ok || at != want || d != l[1] {
				t.Errorf("behind %d %d: %v %d %v", kind, n, d, at, ok)
			}
			if d, at, ok := Place(l, "d"); !ok || at != 0 || d != l[0] {
				t.Errorf("%d %d: %v %d %v", kind, n, d, at, ok)
			}
		}
	}
	var l []api.Decl
	for i := range 100000 {
		l = append(l, odd(1+i%2, "x", i))
	}
	l = append(l, row("v", 3), atom("a", 3))
	if d, at, ok := Place(l, "a"); !ok || at != 100003 || d != l[100001] {
		t.Error(d, at, ok)
	}
}

// someDecls are declarations out of which lists are made: of each kind, with Ns that are unlike.
func someDecls() []api.Decl {
	return []api.Decl{
		cell("x", 1), cell("y", -2), atom("x", 3), atom("z", -4), row("x", 0), row("y", -1), row("z", 1),
		row("v", 8), row("w", 7), row("x", 16), row("u", 17), odd(0, "x", 11), odd(4, "q", 12),
	}
}

// declLists are all lists of up to 3 out of someDecls.
func declLists() [][]api.Decl {
	all := [][]api.Decl{nil}
	for from := 0; len(all[from]) < 3; from++ {
		for _, d := range someDecls() {
			all = append(all, append(slices.Clone(all[from]), d))
		}
	}
	return all
}

// at is a location, and which declaration it is of.
type at struct {
	which int
	loc   api.Loc
}

// spread tells all locations of declarations at length, none left out.
func spread(l []api.Decl) []at {
	var all []at
	for i, d := range l {
		switch {
		case d.Kind == api.Atom:
			all = append(all, at{i, atomic(int64(d.N))})
		case d.Kind != api.Row:
			all = append(all, at{i, plain(int64(d.N))})
		default:
			for k := 0; k < d.N; k++ {
				all = append(all, at{i, plain(0)})
			}
		}
	}
	return all
}

// TestAllLists: all lists of up to 3 declarations, against their locations told at length.
func TestAllLists(t *testing.T) {
	for _, l := range declLists() {
		all := spread(l)
		var want []api.Loc
		for _, a := range all[:min(16, len(all))] {
			want = append(want, a.loc)
		}
		if got := Layout(l); !slices.Equal(got, want) {
			t.Fatal(l, got, want)
		}
		for _, name := range []string{"x", "y", "z", "u", "v", "w", "q", "none"} {
			which := slices.IndexFunc(l, func(d api.Decl) bool { return d.Name == name })
			d, where, ok := Place(l, name)
			if which < 0 {
				if ok || where != 0 || d != (api.Decl{}) {
					t.Fatal(l, name, d, where, ok)
				}
				continue
			}
			ahead := 0
			for _, a := range all {
				if a.which < which {
					ahead++
				}
			}
			if !ok || where != ahead || d != l[which] {
				t.Fatal(l, name, d, where, ok)
			}
		}
	}
}

// TestFirst: where a declaration has locations that lie within the limit, its place is where they stand in the layout.
func TestFirst(t *testing.T) {
	l := []api.Decl{row("u", 3), atom("a", 7), row("v", -2), cell("x", 9), row("w", 8), atom("b", 2), atom("c", 3)}
	locs := Layout(l)
	for name, want := range map[string]api.Loc{"a": atomic(7), "x": plain(9), "w": plain(0), "b": atomic(2), "c": atomic(3)} {
		if _, where, ok := Place(l, name); !ok || locs[where] != want {
			t.Error(name, where, ok)
		}
	}
}

// spare is a copy of a list with room behind it that is filled with what none of the tests has.
func spare[T any](l []T, fill T) []T {
	out := append(slices.Clone(l), fill, fill, fill, fill)
	for i := len(out); i < cap(out); i++ {
		out = append(out, fill)
	}
	return out[:len(l)]
}

// TestDeclsStay: declarations that are handed in stay as they were, their spare room too, and what is answered is new.
func TestDeclsStay(t *testing.T) {
	fill := api.Decl{Kind: 77, Name: "fill", N: 77, At: 77}
	for _, l := range declLists() {
		in := spare(l, fill)
		was := slices.Clone(in[:cap(in)])
		got := Layout(in)
		want := slices.Clone(got)
		Place(in, "x")
		Place(in, "none")
		if !slices.Equal(was, in[:cap(in)]) {
			t.Fatal("changed", l)
		}
		// What was answered goes on being so when what was handed in is written over, and the other way round.
		for i := range in[:cap(in)] {
			in[:cap(in)][i] = fill
		}
		if !slices.Equal(got, want) {
			t.Fatal("kept", l)
		}
		for i := range got[:cap(got)] {
			got[:cap(got)][i] = atomic(99)
		}
		if again := Layout(l); !slices.Equal(again, want) {
			t.Fatal("asked again", l, again)
		}
	}
}
