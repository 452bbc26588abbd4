package show

import (
	"selvage/api"
	"selvage/lex"
)

// maxNumber is the greatest that MaxDigits digits can say.
const maxNumber = 999999999

// The N of a match of options: which of its arms are there.
const (
	noneArm  = 1
	someArm  = 2
	bothArms = noneArm | someArm
)

// Formed: may tokens make it?
func Formed(p api.Program) bool {
	if len(p.Decls) > api.MaxDecls || len(p.Domains) < 1 || len(p.Domains) > api.MaxDomains {
		return false
	}
	locs := 0
	for _, d := range p.Decls {
		if !formedDecl(d) {
			return false
		}
		locs += size(d)
	}
	for _, e := range p.Domains {
		if !formed(e, api.MaxDeep) {
			return false
		}
	}
	return locs <= api.MaxLocs
}

func formedDecl(d api.Decl) bool {
	if !lex.IsName(d.Name) {
		return false
	}
	switch d.Kind {
	case api.Cell, api.Atom:
		return -maxNumber <= d.N && d.N <= maxNumber
	case api.Row:
		return 1 <= d.N && d.N <= api.MaxRow
	}
	return false
}

// size: how many locations a declaration has.
func size(d api.Decl) int {
	if d.Kind == api.Row {
		return d.N
	}
	return 1
}

// formed: is it an expression of at most that depth? It looks no deeper, however deep the expression is.
func formed(e api.Expr, depth int) bool {
	if depth == 0 || len(e.Kids) != kidsOf(e.Kind) || !textFits(e) || !otherFits(e) || !numberFits(e) || !armsFit(e) {
		return false
	}
	for _, k := range e.Kids {
		if !formed(k, depth-1) {
			return false
		}
	}
	return true
}

// kidsOf: how many kids an expression of a kind has; -1: there is no such kind.
func kidsOf(kind int) int {
	switch kind {
	case api.Num, api.Bool, api.Unit, api.Name, api.Load, api.None:
		return 0
	case api.Fun, api.Store, api.At, api.Swap, api.Inc, api.Tell, api.Some:
		return 1
	case api.Let, api.App, api.Seq, api.Put, api.Cas, api.Pair, api.Op, api.Less, api.Same, api.Two:
		return 2
	case api.If, api.Opt:
		return 3
	}
	return -1
}

func textFits(e api.Expr) bool {
	switch e.Kind {
	case api.Name, api.Let, api.Fun, api.Load, api.Store, api.At, api.Put, api.Swap, api.Inc, api.Cas, api.Two:
		return lex.IsName(e.Text)
	case api.Op:
		return e.Text == "+" || e.Text == "-" || e.Text == "*" || e.Text == "/"
	case api.Opt:
		if e.N != noneArm {
			return lex.IsName(e.Text)
		}
	}
	return e.Text == ""
}

func otherFits(e api.Expr) bool {
	if e.Kind == api.Two {
		return lex.IsName(e.Other)
	}
	return e.Other == ""
}

func numberFits(e api.Expr) bool {
	switch e.Kind {
	case api.Num:
		return 0 <= e.N && e.N <= maxNumber
	case api.Bool:
		return e.N == 0 || e.N == 1
	case api.Opt:
		return noneArm <= e.N && e.N <= bothArms
	}
	return e.N == 0
}

// armsFit: is Unit in the place of an arm that is not there? That this has nothing more is asked of it as of each kid.
func armsFit(e api.Expr) bool {
	if e.Kind != api.Opt {
		return true
	}
	return (e.N != someArm || e.Kids[1].Kind == api.Unit) && (e.N != noneArm || e.Kids[2].Kind == api.Unit)
}
