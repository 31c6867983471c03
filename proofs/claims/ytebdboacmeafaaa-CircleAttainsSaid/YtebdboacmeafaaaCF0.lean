/- Package firetowerref05: Alone. -/
import Derived.Test.YtebdboacmeafaaaCEA
import Derived.Test.YtebdboacmeafaaaCE9
import Derived.Test.YtebdboacmeafaaaCDC
import Derived.Test.YtebdboacmeafaaaCCA
set_option linter.unusedVariables false
set_option linter.unusedSimpArgs false
namespace Go.Proofs.Ytebdboacmeafaaa
open Go Go.RowKit

/-- What Alone answers, by its parts. -/
def alnT (cs : List Ci) (ks : List Ck) (id : Int) : Int × Int × Int :=
  if ccE cs ks = 0 then
    (match ckF ks id with
    | none => (0, 0, 5)
    | some k => if alB ((ciF cs k.c).getD .nil).x ((ciF cs k.c).getD .nil).y k = true then (alL ((ciF cs k.c).getD .nil).x ((ciF cs k.c).getD .nil).y k, alH ((ciF cs k.c).getD .nil).x ((ciF cs k.c).getD .nil).y k, 0) else (0, 0, 9))
  else (0, 0, ccE cs ks)
theorem alnV_eq (cs : List Ci) (ks : List Ck) (id : Int) : alnV cs ks id = .tuple #[.agg #[.int .i64 (alnT cs ks id).1, .int .i64 (alnT cs ks id).2.1], .int .i64 (alnT cs ks id).2.2] := by
  unfold alnV alnT
  by_cases h : ccE cs ks = 0
  · rw [if_pos h, if_pos h]
    cases ckF ks id with
    | none => rfl
    | some k => simp only; split <;> rfl
  · rw [if_neg h, if_neg h]
theorem ck_br {cs : List Ci} {ks : List Ck} (ho : CcOk cs ks) {k : Ck} {z : Ci} (h : CkOk cs k z) : brB z.x z.y k.x k.y = true := by
  have hz := (Ci.ok_iff.1 (ciF_ok ho h.of)).2.1
  have hne := h.ne
  unfold brB
  rw [om_iff.2 hz, om_iff.2 h.at']
  rw [show (z.x == k.x && z.y == k.y) = (k.x == z.x && k.y == z.y) by rw [BEq.comm (a := z.x), BEq.comm (a := z.y)], hne]
  rfl
end Go.Proofs.Ytebdboacmeafaaa
