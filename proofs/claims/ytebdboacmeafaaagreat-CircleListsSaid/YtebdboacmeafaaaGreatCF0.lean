/- Package firetowerref05: Alone. -/
import Derived.Test.YtebdboacmeafaaaGreatCEA
import Derived.Test.YtebdboacmeafaaaGreatCE9
import Derived.Test.YtebdboacmeafaaaGreatCDC
import Derived.Test.YtebdboacmeafaaaGreatCCA
set_option linter.unusedVariables false
set_option linter.unusedSimpArgs false
namespace Go.Proofs.YtebdboacmeafaaaGreat
open Go Go.RowKit

/-- What Alone answers, by its parts. -/
def alnT (cs : List Ci) (ks : List Ck) (id : Int) : Int × Int × Int :=
  if ccE cs ks = 0 then
    (match ckF ks id with
    | none => (0, 0, 5)
    | some k => if alB ((ciF cs k.c).getD .nil).x ((ciF cs k.c).getD .nil).y k = true then (alL ((ciF cs k.c).getD .nil).x ((ciF cs k.c).getD .nil).y k, alH ((ciF cs k.c).getD .nil).x ((ciF cs k.c).getD .nil).y k, 0) else (0, 0, 9))
  else (0, 0, ccE cs ks)
theorem alnV_eq (cs : List Ci) (ks : List Ck) (id : Int) : alnV cs ks id = .tuple #[.agg #[.int .i64 (alnT cs ks id).1, .int .i64 (alnT cs ks id).2.1], .int .i64 (alnT cs ks id).2.2] := by
  unfold alnV alnT
  by_cases h : ccE cs ks = 0
  · rw [if_pos h, if_pos h]
    cases ckF ks id with
    | none => rfl
    | some k => simp only; split <;> rfl
  · rw [if_neg h, if_neg h]
theorem ck_br {cs : List Ci} {ks : List Ck} (ho : CcOk cs ks) {k : Ck} {z : Ci} (h : CkOk cs k z) : brB z.x z.y k.x k.y = true := by
  have hz := (Ci.ok_iff.1 (ciF_ok ho h.of)).2.1
  have hne := h.ne
  unfold brB
  rw [om_iff.2 hz, om_iff.2 h.at']
  rw [show (z.x == k.x && z.y == k.y) = (k.x == z.x && k.y == z.y) by rw [BEq.comm (a := z.x), BEq.comm (a := z.y)], hne]
  rfl
theorem info_kn3 : (Tryz.prog.info? 145).map (·.size) = some 3 := by kernel_rfl
/-- The worlds and frames in a region. -/
def AlnInv (W1 : World) (wz b off n1 c1 n2 c2 k : Nat) (a1 : Option Addr) (id x0 x1 x2 x3 x4 x5 x6 lo hi : Int) (no : Bool) (u0 u3 u5 u7 u8 u9 u10 u11 u12 u13 u14 u15 u16 u17 u18 u19 u20 u21 u22 u23 u24 u25 u26 u27 u28 u29 u30 u31 u32 u33 u34 u35 u36 u37 u38 u39 u40 u41 u42 : Value) (listed : Array Bool) (a : Act) (w' : World) : Prop :=
  ∃ (l0 l1 l2 l3 l4 l5 l6 l7 l8 : Bool) (A : Nat), listed = #[l0, l1, l2, l3, l4, l5, l6, l7, l8] ∧ a = { tmps := #[u0, .int .i64 id, .pointer (some ⟨wz, 0, none⟩), u3, .pointer (some ⟨wz + 1, 0, none⟩), u5, .int .i64 (k : Nat), pkIf l7 (.pointer (some ⟨A, 0, none⟩)) (u7), u8, u9, u10, u11, u12, u13, u14, u15, u16, u17, u18, u19, u20, u21, u22, u23, u24, u25, u26, u27, u28, pkIf l0 (.agg #[.slice a1 n1 c1, .slice (some ⟨b, off, none⟩) n2 c2]) (u29), pkIf l1 (.pointer (some ⟨wz, 1, none⟩)) (u30), pkIf l2 (.slice (some ⟨b, off, none⟩) n2 c2) (u31), pkIf l3 (.int .i64 (k : Nat)) (u32), pkIf l4 (.pointer (some ⟨b, off + k * 7, none⟩)) (u33), pkIf l5 (.agg #[.int .i64 x0, .int .i64 x1, .int .i64 x2, .int .i64 x3, .int .i64 x4, .int .i64 x5, .int .i64 x6]) (u34), pkIf l6 (.agg #[.int .i64 lo, .int .i64 hi, .bool no]) (u35), u36, u37, u38, u39, u40, u41, u42], defers := [] } ∧ Below W1.heap.size W1 w' ∧ (l7 = true → W1.heap.size ≤ A ∧ w'.heap[A]? = some (.cells (if l8 = true then #[.int .i64 lo, .int .i64 hi, .bool no] else #[.int .i64 0, .int .i64 0, .bool false]) 179 (0, 0))) ∧ (l8 = true → l7 = true)
end Go.Proofs.YtebdboacmeafaaaGreat
