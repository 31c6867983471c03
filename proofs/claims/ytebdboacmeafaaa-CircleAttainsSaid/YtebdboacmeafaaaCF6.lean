/- Package firetowerref05: use, Zero. -/
import Derived.Test.YtebdboacmeafaaaCF5
set_option linter.unusedVariables false
set_option linter.unusedSimpArgs false
namespace Go.Proofs.Ytebdboacmeafaaa
open Go Go.RowKit

/-- The code that use answers. -/
def usE (cs : List Ci) (ks : List Ck) (id lo hi : Int) : Int :=
  if ccE cs ks = 0 then (match ciF cs id with | none => 5 | some z => if (decide (hi < lo) || decide (lo < z.f) || decide (z.t < hi)) = true then 1 else 0) else ccE cs ks
def UsHit (F : Option Ci) (E lo hi : Int) (e : Ending) : Prop := ∃ z, F = some z ∧ E = 0 ∧ (lo ≤ hi ∧ z.f ≤ lo ∧ hi ≤ z.t) ∧ e = .returned (.agg #[.int .i64 z.id, .int .i64 z.x, .int .i64 z.y, .int .i64 z.f, .int .i64 z.t, .int .i64 z.lo, .int .i64 z.hi, .int .i64 z.dr, .int .i64 0])
def UsOut (cs : List Ci) (ks : List Ck) (id lo hi : Int) (w : World) (e : Ending) (w' : World) : Prop :=
  Below w.heap.size w w' ∧ (usE cs ks id lo hi ≠ 0 → e = .returned (.agg #[.int .i64 0, .int .i64 0, .int .i64 0, .int .i64 0, .int .i64 0, .int .i64 0, .int .i64 0, .int .i64 0, .int .i64 (usE cs ks id lo hi)])) ∧ (usE cs ks id lo hi = 0 → UsHit (ciF cs id) (ccE cs ks) lo hi e)
/-- The worlds and frames in Zero's last region. -/
def ZerInv (W1 : World) (wz ub n1 c1 n2 c2 : Nat) (a1 a2 : Option Addr) (t z0 z1 z2 z3 z4 z5 z6 z7 lo hi : Int) (TL : List Th) (u0 u1 u4 u5 u8 u9 u10 u11 u12 u13 u14 u15 u16 u17 u18 u19 u20 u21 u22 u23 u24 u25 u26 u27 u28 u29 u30 u31 u32 u33 u34 u35 : Value) (listed : Array Bool) (a : Act) (w' : World) : Prop :=
  ∃ (l0 l1 l2 l3 l4 l5 l6 l7 l8 : Bool) (V : Value), listed = #[l0, l1, l2, l3, l4, l5, l6, l7, l8, false] ∧ a = { tmps := #[u0, u1, .int .i64 t, .pointer (some ⟨wz, 0, none⟩), u4, u5, .pointer (some ⟨wz + 1, 0, none⟩), .pointer (some ⟨ub, 0, none⟩), u8, u9, u10, u11, u12, u13, u14, u15, u16, u17, u18, u19, u20, u21, u22, u23, u24, u25, u26, pkIf l0 (.pointer (some ⟨ub, 0, none⟩)) (u27), pkIf l1 (.agg #[.int .i64 z0, .int .i64 z1, .int .i64 z2, .int .i64 z3, .int .i64 z4, .int .i64 z5, .int .i64 z6, .int .i64 z7]) (u28), pkIf l2 (.agg #[.slice a1 n1 c1, .slice a2 n2 c2]) (u29), pkIf l3 (.pointer (some ⟨ub, 0, none⟩)) (u30), pkIf l4 (.agg #[.int .i64 z0, .int .i64 z1, .int .i64 z2, .int .i64 z3, .int .i64 z4, .int .i64 z5, .int .i64 z6, .int .i64 z7]) (u31), pkIf l5 (V) (u32), pkIf l6 (.int .i64 t) (u33), pkIf l7 (.agg #[.int .i64 lo, .int .i64 hi]) (u34), pkIf l8 (.agg #[.int .i64 lo, .int .i64 hi, .int .i64 0]) (u35)], defers := [] } ∧ Below W1.heap.size W1 w' ∧ (l5 = true → TgRow w' V TL)
/-- The zeros that the reference answers, by its own lists. -/
def yrE (cs : List Ci) (ks : List Ck) (id t : Int) : Int :=
  if usE cs ks id t t = 0 then (if (gAll ((ciF cs id).getD .nil).dr (thL ((ciF cs id).getD .nil) ks) (thL ((ciF cs id).getD .nil) ks).length).isEmpty = true then 0 else 9) else usE cs ks id t t
def yrL (cs : List Ci) (ks : List Ck) (id t : Int) : Int := if yrE cs ks id t = 0 then spLo ((ciF cs id).getD .nil).dr (thL ((ciF cs id).getD .nil) ks) t else 0
def yrH (cs : List Ci) (ks : List Ck) (id t : Int) : Int := if yrE cs ks id t = 0 then spHi ((ciF cs id).getD .nil).dr (thL ((ciF cs id).getD .nil) ks) t else 0
end Go.Proofs.Ytebdboacmeafaaa
