package act

import (
	"math"
	"math/rand"
	"slices"
	"testing"

	"selvage/api"
)

// actKinds are the acts' kinds, and what is none on both sides of them and far away.
func actKinds() []int {
	return []int{math.MinInt, -6, -1, 0, api.Read, api.Write, api.Get, api.Set, api.Turn, api.Said, 7, 8, 1<<32 + api.Read, 1<<32 + api.Said, math.MaxInt}
}

// values are what an act's Old and New may be.
func values() []int64 { return []int64{math.MinInt64, -1, 0, 1, 1 << 32, math.MaxInt64} }

// use says of a kind, as the chapter's words do, what an act of it uses.
type use struct {
	kind             int
	memory, atomic   bool
	usesOld, usesNew bool
}

// uses are the kinds that are one.
func uses() []use {
	return []use{
		{api.Read, true, false, true, false},
		{api.Write, true, false, false, true},
		{api.Get, true, true, true, false},
		{api.Set, true, true, false, true},
		{api.Turn, true, true, true, true},
		{api.Said, false, false, false, true},
	}
}

// fits holds an act against uses: it is right just if one of them fits it.
func fits(a api.Act, l []api.Loc) bool {
	for _, u := range uses() {
		if a.Kind != u.kind || !u.usesOld && a.Old != 0 || !u.usesNew && a.New != 0 {
			continue
		}
		if !u.memory {
			return a.Loc == 0
		}
		for i, loc := range l {
			if i == a.Loc {
				return loc.Atomic == u.atomic
			}
		}
	}
	return false
}

// locLists are lists of locations: none, one, all of up to 4 of either sort, and as many as there may be, and more.
func locLists() [][]api.Loc {
	all := [][]api.Loc{nil, {}}
	for n := 1; n <= 4; n++ {
		for bits := range 1 << n {
			var l []api.Loc
			for i := range n {
				l = append(l, api.Loc{Atomic: bits>>i&1 == 1, Init: int64(i)})
			}
			all = append(all, l)
		}
	}
	for _, n := range []int{15, 16, 17, 40} {
		var l []api.Loc
		for i := range n {
			l = append(l, api.Loc{Atomic: i%3 == 0, Init: int64(-i)})
		}
		all = append(all, l)
	}
	return all
}

func TestRightExamples(t *testing.T) {
	mixed := []api.Loc{plain(5), plain(0), plain(0), atomic(1)}
	alone := []api.Loc{atomic(3)}
	for _, c := range []struct {
		name string
		a    api.Act
		l    []api.Loc
		want bool
	}{
		{"read", api.Act{Kind: api.Read, Loc: 1, Old: 7}, mixed, true},
		{"read of the first", api.Act{Kind: api.Read, Loc: 0, Old: 7}, mixed, true},
		{"read of 0", api.Act{Kind: api.Read, Loc: 2}, mixed, true},
		{"read that writes", api.Act{Kind: api.Read, Loc: 1, Old: 7, New: 1}, mixed, false},
		{"read of an atom", api.Act{Kind: api.Read, Loc: 3, Old: 7}, mixed, false},
		{"read behind the last", api.Act{Kind: api.Read, Loc: 4}, mixed, false},
		{"read below 0", api.Act{Kind: api.Read, Loc: -1}, mixed, false},
		{"read of none", api.Act{Kind: api.Read}, nil, false},
		{"write", api.Act{Kind: api.Write, Loc: 1, New: 7}, mixed, true},
		{"write that reads", api.Act{Kind: api.Write, Loc: 1, Old: 1, New: 7}, mixed, false},
		{"write of an atom", api.Act{Kind: api.Write, Loc: 3, New: 7}, mixed, false},
		{"get", api.Act{Kind: api.Get, Loc: 3, Old: -7}, mixed, true},
		{"get of the first", api.Act{Kind: api.Get, Old: 3}, alone, true},
		{"get that writes", api.Act{Kind: api.Get, Loc: 3, Old: 7, New: -1}, mixed, false},
		{"get of a cell", api.Act{Kind: api.Get, Loc: 0, Old: 5}, mixed, false},
		{"set", api.Act{Kind: api.Set, Loc: 3, New: 7}, mixed, true},
		{"set that reads", api.Act{Kind: api.Set, Loc: 3, Old: 1, New: 7}, mixed, false},
		{"set of a cell", api.Act{Kind: api.Set, Loc: 2, New: 7}, mixed, false},
		{"turn", api.Act{Kind: api.Turn, Loc: 3, Old: 1, New: 2}, mixed, true},
		{"turn of 0 to 0", api.Act{Kind: api.Turn, Loc: 3}, mixed, true},
		{"turn of a cell", api.Act{Kind: api.Turn, Loc: 1, Old: 1, New: 2}, mixed, false},
		{"turn behind the last", api.Act{Kind: api.Turn, Loc: 4, Old: 1, New: 2}, mixed, false},
		{"turn behind the only", api.Act{Kind: api.Turn, Loc: 1}, alone, false},
		{"said", api.Act{Kind: api.Said, New: 8}, mixed, true},
		{"said 0", api.Act{Kind: api.Said}, mixed, true},
		{"said, where the first is atomic", api.Act{Kind: api.Said, New: 8}, alone, true},
		{"said, where there is none", api.Act{Kind: api.Said, New: 8}, nil, true},
		{"said that reads", api.Act{Kind: api.Said, Old: 1, New: 8}, mixed, false},
		{"said with a place", api.Act{Kind: api.Said, Loc: 1, New: 8}, mixed, false},
		{"said with an atom", api.Act{Kind: api.Said, Loc: 3, New: 8}, mixed, false},
		{"said below 0", api.Act{Kind: api.Said, Loc: -1, New: 8}, mixed, false},
		{"no kind", api.Act{}, mixed, false},
		{"no kind, of an atom", api.Act{Loc: 3}, mixed, false},
		{"a kind too many", api.Act{Kind: 7}, mixed, false},
		{"a kind too many, of an atom", api.Act{Kind: 7, Loc: 3}, mixed, false},
		{"a kind below 0", api.Act{Kind: -1}, mixed, false},
	} {
		if got := Right(c.a, c.l); got != c.want {
			t.Errorf("%s: %v", c.name, got)
		}
	}
}

// TestRightAll: each kind, on each location and beyond, with each Old and New.
func TestRightAll(t *testing.T) {
	for _, l := range locLists() {
		places := []int{math.MinInt, -1 << 32, -2, -1, len(l), len(l) + 1, 1 << 32, 1<<32 + 1, math.MaxInt}
		for i := range l {
			places = append(places, i)
		}
		for _, kind := range actKinds() {
			for _, place := range places {
				for _, before := range values() {
					for _, after := range values() {
						a := api.Act{Kind: kind, Loc: place, Old: before, New: after}
						if got := Right(a, l); got != fits(a, l) {
							t.Fatal(a, l, got)
						}
					}
				}
			}
		}
	}
}

// TestRightLaid: what Layout lays is what Right asks of.
func TestRightLaid(t *testing.T) {
	l := Layout([]api.Decl{row("v", 8), atom("a", 1), row("w", 8)})
	for i := range 18 {
		if Right(api.Act{Kind: api.Write, Loc: i, New: 3}, l) != (i < 16 && i != 8) {
			t.Error("write", i)
		}
		if Right(api.Act{Kind: api.Set, Loc: i, New: 3}, l) != (i == 8) {
			t.Error("set", i)
		}
	}
}

func TestPartsExamples(t *testing.T) {
	acts := []api.Act{
		{Kind: api.Read, Loc: 1, Old: 7}, {Kind: api.Said, New: 8}, {Kind: api.Turn, Loc: 3, Old: 1, New: 2}, {Kind: api.Write, New: 9},
		{Kind: api.Get, Loc: 3, Old: -2}, {Kind: api.Said, New: -8}, {Kind: api.Set, Loc: 3, New: 4}, {Kind: api.Said, New: 8}, {Kind: api.Read, Loc: 1, Old: 7},
	}
	if got := Asked(acts); !slices.Equal(got, []int64{7, 1, -2, 7}) {
		t.Error("asked", got)
	}
	if got := Told(acts); !slices.Equal(got, []int64{8, -8, 8}) {
		t.Error("told", got)
	}
	if got := Memory(acts); !slices.Equal(got, []api.Act{acts[0], acts[2], acts[3], acts[4], acts[6], acts[8]}) {
		t.Error("memory", got)
	}
}

func TestPartsOfNone(t *testing.T) {
	for _, l := range [][]api.Act{nil, {}} {
		if len(Asked(l)) != 0 || len(Told(l)) != 0 || len(Memory(l)) != 0 {
			t.Error("something of nothing")
		}
	}
}

// TestPartsOfOne: an act alone, of any kind, whether it is right or not.
func TestPartsOfOne(t *testing.T) {
	for _, kind := range actKinds() {
		for _, before := range values() {
			for _, after := range values() {
				a := api.Act{Kind: kind, Loc: int(before) + int(after), Old: before, New: after}
				var asked, told []int64
				memory := []api.Act{a}
				switch kind {
				case api.Read, api.Get, api.Turn:
					asked = []int64{before}
				case api.Said:
					told, memory = []int64{after}, nil
				}
				holdParts(t, []api.Act{a}, asked, told, memory)
			}
		}
	}
}

func holdParts(t *testing.T, l []api.Act, asked, told []int64, memory []api.Act) {
	t.Helper()
	if got := Asked(l); !slices.Equal(got, asked) {
		t.Fatal("asked", l, got, asked)
	}
	if got := Told(l); !slices.Equal(got, told) {
		t.Fatal("told", l, got, told)
	}
	if got := Memory(l); !slices.Equal(got, memory) {
		t.Fatal("memory", l, got, memory)
	}
}

// mixed are n acts of any kinds by chance, each with numbers of its own.
func mixed(r *rand.Rand, n int) []api.Act {
	var l []api.Act
	for i := range n {
		l = append(l, api.Act{Kind: r.Intn(9) - 1, Loc: r.Intn(5) - 1, Old: int64(3 * i), New: int64(-5*i - 1)})
	}
	return l
}

// parts are what a list's acts give one by one, put together.
func parts(l []api.Act) (asked, told []int64, memory []api.Act) {
	for i := range l {
		asked = append(asked, Asked(l[i:i+1])...)
		told = append(told, Told(l[i:i+1])...)
		memory = append(memory, Memory(l[i:i+1])...)
	}
	return asked, told, memory
}

// TestPartsTogether: what acts give that are put together is what they give apart, in their order; very many, too.
func TestPartsTogether(t *testing.T) {
	r := rand.New(rand.NewSource(8))
	for n := range 200 {
		l := mixed(r, n)
		asked, told, memory := parts(l)
		holdParts(t, l, asked, told, memory)
		for cut := 0; cut <= n; cut += 1 + n/8 {
			a, b := l[:cut], l[cut:]
			holdParts(t, slices.Concat(b, a), slices.Concat(Asked(b), Asked(a)), slices.Concat(Told(b), Told(a)), slices.Concat(Memory(b), Memory(a)))
		}
		if again := Memory(memory); !slices.Equal(again, memory) || len(Told(memory)) != 0 || !slices.Equal(Asked(memory), asked) {
			t.Fatal("memory of memory", l)
		}
	}
	l := mixed(r, 300000)
	asked, told, memory := parts(l)
	holdParts(t, l, asked, told, memory)
	if len(told)+len(memory) != len(l) || len(told) == 0 || len(asked) == 0 {
		t.Error(len(asked), len(told), len(memory))
	}
}

// TestActsStay: lists that are handed in stay as they were, their spare room too, and what is answered is new.
func TestActsStay(t *testing.T) {
	r := rand.New(rand.NewSource(88))
	fill := api.Act{Kind: api.Said, Loc: 9, Old: 99, New: 99}
	for n := range 60 {
		l := mixed(r, n)
		if n%3 == 0 {
			// Of acts of the memory alone nothing is left out, yet the answer is new.
			l = Memory(l)
		}
		asked, told, memory := parts(l)
		in := spare(l, fill)
		was := slices.Clone(in[:cap(in)])
		a, s, m := Asked(in), Told(in), Memory(in)
		if !slices.Equal(was, in[:cap(in)]) {
			t.Fatal("changed", l)
		}
		for i := range m[:cap(m)] {
			m[:cap(m)][i] = fill
		}
		if !slices.Equal(was, in[:cap(in)]) {
			t.Fatal("shared", l)
		}
		m = Memory(in)
		for i := range in[:cap(in)] {
			in[:cap(in)][i] = fill
		}
		if !slices.Equal(a, asked) || !slices.Equal(s, told) || !slices.Equal(m, memory) {
			t.Fatal("kept", l)
		}
	}
}

// TestLocsStay: so do the locations that an act is held against.
func TestLocsStay(t *testing.T) {
	for _, l := range locLists() {
		in := spare(l, atomic(77))
		was := slices.Clone(in[:cap(in)])
		for _, kind := range actKinds() {
			for place := -1; place <= len(l)+2; place++ {
				a := api.Act{Kind: kind, Loc: place, Old: 1}
				// What lies in the spare room is no location.
				if Right(a, in) != Right(a, l) {
					t.Fatal(a, l)
				}
			}
		}
		if !slices.Equal(was, in[:cap(in)]) {
			t.Fatal("changed", l)
		}
	}
}
