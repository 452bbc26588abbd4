package calls

import (
	"testing"

	"selvage/act"
	"selvage/again"
	"selvage/alloc"
	"selvage/api"
	"selvage/axiom"
	"selvage/cand"
	"selvage/driver"
	"selvage/emit"
	"selvage/eval"
	"selvage/explore"
	"selvage/fold"
	"selvage/hist"
	"selvage/isa"
	"selvage/lab"
	"selvage/lex"
	"selvage/lower"
	"selvage/parse"
	"selvage/power"
	"selvage/project"
	"selvage/race"
	"selvage/rat"
	"selvage/rel"
	"selvage/seq"
	"selvage/show"
	"selvage/thread"
	"selvage/tree"
	"selvage/types"
	"selvage/weight"
	"selvage/witness"
)

// The chapters list these calls; one with another signature does not compile here.
func TestCalls(t *testing.T) {
	var _ func(a api.Rat) bool = rat.Right
	var _ func(a, b api.Rat) int = rat.Cmp
	var _ func(a api.Rat) api.Rat = rat.Least
	var _ func(a, b api.Rat) (api.Rat, bool) = rat.Between
	var _ func(a api.Rat) (api.Rat, bool) = rat.After
	var _ func(a, b api.Rat) api.Rat = rat.Max

	var _ func(n int, pairs [][2]int) (api.Rel, api.Errno) = rel.Of
	var _ func(r api.Rel, i, k int) bool = rel.Has
	var _ func(a, b api.Rel) api.Rel = rel.Union
	var _ func(a, b api.Rel) api.Rel = rel.Inter
	var _ func(a, b api.Rel) api.Rel = rel.Minus
	var _ func(a, b api.Rel) api.Rel = rel.Then
	var _ func(r api.Rel) api.Rel = rel.Back
	var _ func(r api.Rel) api.Rel = rel.Plus
	var _ func(r api.Rel) api.Rel = rel.Star
	var _ func(r api.Rel) bool = rel.Ring
	var _ func(r api.Rel) ([]int, bool) = rel.Order

	var _ func(uses, length int) float64 = weight.Of
	var _ func(a, b float64) bool = weight.Less
	var _ func(l []float64) int = weight.Least
	var _ func(l []float64) float64 = weight.Middle

	var _ func(text string) ([]api.Token, api.Errno, int) = lex.Tokens
	var _ func(s string) bool = lex.IsName

	var _ func(text string) (api.Program, api.Errno, int) = parse.Parse
	var _ func(e api.Expr) int = parse.Deep

	var _ func(p api.Program) bool = show.Formed
	var _ func(p api.Program) (string, api.Errno) = show.Show

	var _ func(p api.Program) (api.Errno, int) = types.Check

	var _ func(l []api.Decl) []api.Loc = act.Layout
	var _ func(l []api.Decl, name string) (api.Decl, int, bool) = act.Place
	var _ func(a api.Act, l []api.Loc) bool = act.Right
	var _ func(l []api.Act) []int64 = act.Asked
	var _ func(l []api.Act) []int64 = act.Told
	var _ func(l []api.Act) []api.Act = act.Memory

	var _ func(p api.Program, domain int, answers []int64) api.Trace = eval.Run

	var _ func(code []api.Ins, l []api.Loc) bool = tree.Right
	var _ func(code []api.Ins, l []api.Loc, answers []int64) api.Trace = tree.Run

	var _ func(p api.Program, domain int) ([]api.Ins, api.Errno) = lower.Lower

	var _ func(code []api.Ins, l []api.Loc) ([]api.Ins, api.Errno) = fold.Fold

	var _ func(code []api.Ins, l []api.Loc) ([]bool, api.Errno) = again.Spare
	var _ func(code []api.Ins, l []api.Loc) ([]api.Ins, api.Errno) = again.Again
	var _ func(code []api.Ins, l []api.Loc, answers []int64) ([]int64, api.Errno) = again.Full

	var _ func(code []api.Ins, t int) (int, int, bool) = alloc.Span
	var _ func(code []api.Ins, l []api.Loc, regs int) ([]api.Home, api.Errno) = alloc.Homes

	var _ func(x api.Inst) (uint32, api.Errno) = isa.Encode
	var _ func(w uint32) (api.Inst, api.Errno) = isa.Decode

	var _ func(code []api.Inst, locs, domain int, answers []int64) api.Run = thread.Do
	var _ func(words []uint32, locs, domain int, answers []int64) api.Run = thread.Words
	var _ func(events []api.Event, l []api.Loc) []api.Act = thread.Acts

	var _ func(code []api.Ins, l []api.Loc, regs int) ([]api.Inst, api.Errno) = emit.Emit

	var _ func(l []api.Loc, runs []api.Run) ([]api.Node, api.Errno) = cand.Nodes
	var _ func(l []api.Loc, runs []api.Run, from []int, order [][]int) (api.Exec, api.Errno) = cand.Build

	var _ func(x api.Exec) api.Rel = power.Ppo
	var _ func(x api.Exec) api.Rel = power.Prop
	var _ func(x api.Exec) int = power.Check

	var _ func(l []api.Loc, threads int) (api.Memory, api.Errno) = hist.New
	var _ func(m api.Memory, s api.Step) (api.Memory, api.Errno) = hist.Do
	var _ func(m api.Memory, thread, loc int) []api.Stamp = hist.Sees
	var _ func(m api.Memory, loc int) (api.Stamp, bool) = hist.Last

	var _ func(l []api.Loc, vals []int64, a api.Act) ([]int64, api.Errno) = seq.Do
	var _ func(l []api.Loc, acts []api.Act) ([]int64, int, api.Errno) = seq.Run
	var _ func(l []api.Loc, steps []api.Step) ([]api.Step, api.Errno) = seq.Lift

	var _ func(l []api.Loc, threads int, steps []api.Step) (api.Rel, api.Errno) = race.Order
	var _ func(l []api.Loc, threads int, steps []api.Step) ([][2]int, api.Errno) = race.Races
	var _ func(l []api.Loc, threads int, steps []api.Step) ([]bool, api.Errno) = race.Weak

	var _ func(l []api.Loc, acts [][]api.Act) ([]api.Deed, api.Errno) = axiom.Deeds
	var _ func(l []api.Loc, acts [][]api.Act, from []int, order [][]int) (api.World, api.Errno) = axiom.Build
	var _ func(w api.World) api.Rel = axiom.Order
	var _ func(w api.World) api.Rel = axiom.Fr
	var _ func(w api.World) int = axiom.Check

	var _ func(w api.World) ([]api.Step, api.Errno) = witness.Steps
	var _ func(l []api.Loc, steps []api.Step) (api.Memory, int, api.Errno) = witness.Play
	var _ func(l []api.Loc, steps []api.Step) (api.World, api.Errno) = witness.World

	var _ func(l []api.Loc, runs []api.Run) bool = project.Guarded
	var _ func(l []api.Loc, runs []api.Run, from []int, order [][]int) (api.World, api.Errno) = project.World

	var _ func(l []api.Loc, p [][]api.Todo) ([][]int64, api.Errno) = explore.Steps
	var _ func(l []api.Loc, p [][]api.Todo) ([][]int64, api.Errno) = explore.Latest
	var _ func(l []api.Loc, p [][]api.Todo) ([][]int64, api.Errno) = explore.Axioms
	var _ func(l []api.Loc, p [][]api.Todo, some []int) (bool, bool, api.Errno) = explore.Local

	var _ func(text string) (api.Image, api.Errno, int) = driver.Compile
	var _ func(m api.Image, domain int, answers []int64) api.Run = driver.Run

	var _ func(m api.Image, answers [][]int64) []api.Run = lab.Runs
	var _ func(m api.Image, p api.Plan) (api.Trial, api.Errno) = lab.Try
	var _ func(m api.Image, picks []int) (api.Plan, api.Errno) = lab.Latest
}
