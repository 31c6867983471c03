/- Package firetowerlaw05: the values of the chapter's example. -/
import Derived.Test.YtpaihnjgpookjaaCD7
import Derived.Test.YtpaihnjgpookjaaCD4
import Derived.Test.YtpaihnjgpookjaaCA7
import Derived.Test.YtpaihnjgpookjaaCB4
set_option linter.unusedVariables false
set_option linter.unusedSimpArgs false
namespace Go.Proofs.Ytpaihnjgpookjaa
open Go Go.RowKit

def exC : List Ci := [⟨1, 10, 10, 0, 1000, -5, 5, 6⟩]
def exK : List Ck := [⟨7, 1, 100, 20, 15, 230, 2⟩]
def exK2 : List Ck := [⟨7, 1, 100, 20, 15, 230, 2⟩, ⟨9, 1, 105, 20, 15, 240, 2⟩]
theorem ex_v1 : dvV 10 10 7 9 = .tuple #[.int .i64 1950, .bool true] := by kernel_rfl
theorem ex_v2 : alnV exC exK 7 = .tuple #[.agg #[.int .i64 3, .int .i64 7], .int .i64 0] := by kernel_rfl
theorem ex_v3 : zrV exC exK 1 130 = .tuple #[.agg #[.int .i64 0, .int .i64 10], .int .i64 0] := by kernel_rfl
theorem ex_v4 : rsV exC exK 1 130 = .tuple #[.int .i64 7, .int .i64 7, .int .i64 0] := by kernel_rfl
theorem ex_v5 : wgV exC exK 1 100 900 1 = .tuple #[.agg #[.int .i64 892, .int .i64 898], .int .i64 0] := by kernel_rfl
theorem ex_v6 : vcX 2000 = -450 ∧ vcY 2000 = -200 := by decide
theorem ex_v7 : shB 10 10 20 15 3 2 = true ∧ shLo 10 10 20 15 3 2 = 226 ∧ shHi 10 10 20 15 3 2 = 230 := by decide
theorem ex_v8 : clK exC exK2 1 = [(7, 9)] := by decide
theorem ex_v9 : ccE exC exK2 = 0 := by decide
end Go.Proofs.Ytpaihnjgpookjaa
