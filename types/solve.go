package types

// typ is a type, by its place in a solver.
type typ int

// The types without parts stand first in each solver, in the order of their shapes.
const (
	intType typ = iota
	boolType
	unitType
)

// The shapes of types. A type that is open may yet turn out to be any.
const (
	number = iota
	truth
	nothing
	open
	function
	option
	pair
)

// node is what is known of a type.
type node struct {
	shape int
	parts []typ
	like  typ // one that is the same and that is asked in its place; itself: it is asked itself
}

// solver holds the types of a domain's parts, and whether two have to be the same that can't be.
type solver struct {
	nodes []node
	clash bool
}

func begin() *solver {
	s := &solver{}
	s.made(number)
	s.made(truth)
	s.made(nothing)
	return s
}

// any: a new type of which nothing is known.
func (s *solver) any() typ { return s.made(open) }

// made: a new type of that shape.
func (s *solver) made(shape int, parts ...typ) typ {
	t := typ(len(s.nodes))
	s.nodes = append(s.nodes, node{shape, parts, t})
	return t
}

// asked: the type that is asked in the place of this one. The way to it is made shorter for the next time.
func (s *solver) asked(t typ) typ {
	for s.nodes[t].like != t {
		next := s.nodes[t].like
		s.nodes[t].like = s.nodes[next].like
		t = next
	}
	return t
}

// same: the two types are one. What is to be the same stands in a list, two by two, since types may be far deeper than expressions.
func (s *solver) same(a, b typ) {
	todo := []typ{a, b}
	for len(todo) > 0 && !s.clash {
		n := len(todo) - 2
		todo = append(todo[:n], s.join(s.asked(todo[n]), s.asked(todo[n+1]))...)
	}
}

// join two types that are asked themselves: what has to be the same then, two by two.
func (s *solver) join(a, b typ) []typ {
	if s.nodes[a].shape == open {
		a, b = b, a
	}
	left, right := s.nodes[a], s.nodes[b]
	if a == b {
		return nil
	}
	if right.shape != open && right.shape != left.shape {
		s.clash = true
		return nil
	}
	s.nodes[b].like = a
	var todo []typ
	for i, p := range right.parts {
		todo = append(todo, p, left.parts[i])
	}
	return todo
}

// finite: is no type a part of itself? Each type is taken once all those are of which it is a part: one in a ring never is.
func (s *solver) finite() bool {
	uses := make([]int, len(s.nodes))
	for _, n := range s.nodes {
		for _, p := range n.parts {
			uses[s.asked(p)]++
		}
	}
	var taken []typ
	for t, n := range uses {
		if n == 0 {
			taken = append(taken, typ(t))
		}
	}
	for i := 0; i < len(taken); i++ {
		for _, p := range s.nodes[taken[i]].parts {
			p = s.asked(p)
			uses[p]--
			if uses[p] == 0 {
				taken = append(taken, p)
			}
		}
	}
	return len(taken) == len(s.nodes)
}
