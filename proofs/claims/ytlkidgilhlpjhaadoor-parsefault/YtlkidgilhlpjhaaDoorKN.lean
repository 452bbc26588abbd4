/-
  The contract of Parse holds.
-/
import Derived.Test.YtlkidgilhlpjhaaDoorKK
import Derived.Test.YtlkidgilhlpjhaaDoorLi
namespace Go.Proofs.YtlkidgilhlpjhaaDoor
open Go.RowKit

theorem parseC_holds : ParseC := parseC_of lexC_holds (fun f => program_reads f (fun Z R en g => seq_all Z R en g))
end Go.Proofs.YtlkidgilhlpjhaaDoor
