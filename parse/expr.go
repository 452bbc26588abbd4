package parse

import "selvage/api"

// seq takes every ; that it sees: so one behind a let is of what the let holds in.
func (r *reader) seq() api.Expr {
	// Its own first token: where parentheses stand there, the first kid's place is another.
	at := r.peek().At
	e := r.expr()
	if !r.may(";") {
		return e
	}
	return api.Expr{Kind: api.Seq, At: at, Kids: []api.Expr{e, r.seq()}}
}

func (r *reader) expr() api.Expr {
	t := r.peek()
	switch t.Text {
	case "let":
		return r.let()
	case "if":
		return r.choice()
	case "fun":
		return r.function()
	case "match":
		return r.match()
	}
	if t.Kind == api.Word && r.seesSecond(":=") {
		return r.store()
	}
	at, first := r.begin()
	// A place in parentheses may not be put to.
	if t.Kind == api.Word && first.Kind == api.At && r.may("<-") {
		return api.Expr{Kind: api.Put, Text: first.Text, At: at, Kids: []api.Expr{first.Kids[0], r.expr()}}
	}
	return r.test(at, first)
}

func (r *reader) let() api.Expr {
	at := r.must("let").At
	name := r.name()
	r.must("=")
	what := r.expr()
	r.must("in")
	return api.Expr{Kind: api.Let, Text: name, At: at, Kids: []api.Expr{what, r.seq()}}
}

func (r *reader) choice() api.Expr {
	at := r.must("if").At
	which := r.expr()
	r.must("then")
	yes := r.expr()
	r.must("else")
	return api.Expr{Kind: api.If, At: at, Kids: []api.Expr{which, yes, r.expr()}}
}

func (r *reader) function() api.Expr {
	at := r.must("fun").At
	name := r.name()
	r.must("->")
	return api.Expr{Kind: api.Fun, Text: name, At: at, Kids: []api.Expr{r.expr()}}
}

func (r *reader) store() api.Expr {
	at := r.peek().At
	name := r.name()
	r.must(":=")
	return api.Expr{Kind: api.Store, Text: name, At: at, Kids: []api.Expr{r.expr()}}
}

func (r *reader) match() api.Expr {
	at := r.must("match").At
	of := r.expr()
	r.must("with")
	if r.may("(") {
		return r.pairs(at, of)
	}
	return r.options(at, of)
}

// pairs reads the one arm of pairs: a | behind it is of a match around it.
func (r *reader) pairs(at int, of api.Expr) api.Expr {
	one := r.name()
	r.must(",")
	other := r.name()
	r.must(")")
	r.must("->")
	return api.Expr{Kind: api.Two, Text: one, Other: other, At: at, Kids: []api.Expr{of, r.expr()}}
}

// options reads one arm or two. An arm's own match sees a | ahead of this one: so it is of the innermost that isn't whole.
func (r *reader) options(at int, of api.Expr) api.Expr {
	missing := api.Expr{Kind: api.Unit, At: at}
	m := api.Expr{Kind: api.Opt, At: at, Kids: []api.Expr{of, missing, missing}}
	r.arm(&m)
	if r.may("|") {
		r.arm(&m)
	}
	return m
}

// arm reads an arm of options that the match has not yet.
func (r *reader) arm(m *api.Expr) {
	const none, some = 1, 2
	switch {
	case m.N&none == 0 && r.may("none"):
		m.N |= none
		r.must("->")
		m.Kids[1] = r.expr()
	case m.N&some == 0 && r.may("some"):
		m.N |= some
		m.Text = r.name()
		r.must("->")
		m.Kids[2] = r.expr()
	default:
		r.stop()
	}
}

// begin reads a first unit, and tells its first token's place, which is that of all that it is the left part of: where it is in parentheses, its own place is another.
func (r *reader) begin() (int, api.Expr) {
	at := r.peek().At
	return at, r.unit()
}

// test goes on behind its first unit, which begins at at; so do sum, prod and app.
func (r *reader) test(at int, first api.Expr) api.Expr {
	left := r.sum(at, first)
	switch {
	case r.may("<"):
		return join(api.Less, "", at, left, r.sum(r.begin()))
	case r.may("="):
		return join(api.Same, "", at, left, r.sum(r.begin()))
	}
	return left
}

func (r *reader) sum(at int, first api.Expr) api.Expr {
	left := r.prod(at, first)
	for r.sees("+") || r.sees("-") {
		sign := r.take().Text
		left = join(api.Op, sign, at, left, r.prod(r.begin()))
	}
	return left
}

func (r *reader) prod(at int, first api.Expr) api.Expr {
	left := r.app(at, first)
	for r.sees("*") || r.sees("/") {
		sign := r.take().Text
		left = join(api.Op, sign, at, left, r.app(r.begin()))
	}
	return left
}

func (r *reader) app(at int, first api.Expr) api.Expr {
	left := first
	for beginsUnit(r.peek()) {
		left = join(api.App, "", at, left, r.unit())
	}
	return left
}

func join(kind int, sign string, at int, left, right api.Expr) api.Expr {
	return api.Expr{Kind: kind, Text: sign, At: at, Kids: []api.Expr{left, right}}
}

func beginsUnit(t api.Token) bool {
	switch t.Text {
	case "!", "print", "swap", "add", "cas", "some", "none", "true", "false", "(":
		return true
	}
	return t.Kind == api.Word || t.Kind == api.Number
}

func (r *reader) unit() api.Expr {
	if !beginsUnit(r.peek()) {
		r.stop()
	}
	t := r.take()
	switch t.Text {
	case "!":
		return api.Expr{Kind: api.Load, Text: r.name(), At: t.At}
	case "print":
		return api.Expr{Kind: api.Tell, At: t.At, Kids: []api.Expr{r.unit()}}
	case "some":
		return api.Expr{Kind: api.Some, At: t.At, Kids: []api.Expr{r.unit()}}
	case "swap":
		return api.Expr{Kind: api.Swap, Text: r.name(), At: t.At, Kids: []api.Expr{r.unit()}}
	case "add":
		return api.Expr{Kind: api.Inc, Text: r.name(), At: t.At, Kids: []api.Expr{r.unit()}}
	case "cas":
		return api.Expr{Kind: api.Cas, Text: r.name(), At: t.At, Kids: []api.Expr{r.unit(), r.unit()}}
	case "none":
		return api.Expr{Kind: api.None, At: t.At}
	case "true":
		return api.Expr{Kind: api.Bool, N: 1, At: t.At}
	case "false":
		return api.Expr{Kind: api.Bool, At: t.At}
	case "(":
		return r.inside(t.At)
	}
	if t.Kind == api.Number {
		return api.Expr{Kind: api.Num, N: t.N, At: t.At}
	}
	return r.named(t)
}

// named: a value's name, or a place of a row.
func (r *reader) named(t api.Token) api.Expr {
	if !r.may(".[") {
		return api.Expr{Kind: api.Name, Text: t.Text, At: t.At}
	}
	place := r.expr()
	r.must("]")
	return api.Expr{Kind: api.At, Text: t.Text, At: t.At, Kids: []api.Expr{place}}
}

// inside parentheses: at is the place of the one that opens.
func (r *reader) inside(at int) api.Expr {
	if r.may(")") {
		return api.Expr{Kind: api.Unit, At: at}
	}
	e := r.seq()
	if r.may(",") {
		e = api.Expr{Kind: api.Pair, At: at, Kids: []api.Expr{e, r.seq()}}
	}
	r.must(")")
	return e
}
