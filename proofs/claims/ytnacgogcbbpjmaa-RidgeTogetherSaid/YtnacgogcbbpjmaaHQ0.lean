/- How many bits a number has. -/
import Derived.Test.YtnacgogcbbpjmaaHP0
set_option linter.unusedVariables false
set_option linter.unusedSimpArgs false
namespace Go.Proofs.Ytnacgogcbbpjmaa
open Go Go.RowKit

def oc1 (x : Int) : Int := IntKind.u64.wrap (bits .and .u64 (x / 2) 6148914691236517205 + bits .and .u64 x 6148914691236517205)
def oc2 (x : Int) : Int := IntKind.u64.wrap (bits .and .u64 (x / 4) 3689348814741910323 + bits .and .u64 x 3689348814741910323)
def oc3 (x : Int) : Int := bits .and .u64 (IntKind.u64.wrap (x / 16 + x)) 1085102592571150095
def oc4 (x : Int) : Int := IntKind.u64.wrap (x + x / 256)
def oc5 (x : Int) : Int := IntKind.u64.wrap (x + x / 65536)
def oc6 (x : Int) : Int := IntKind.u64.wrap (x + x / 4294967296)
def ocF (x : Int) : Int := bits .and .i64 (wrap64 (oc6 (oc5 (oc4 (oc3 (oc2 (oc1 x))))))) 127
/-- How many bits a number below 4096 has. -/
def onesN (m : Nat) : Nat := (List.range 12).countP fun i => m.testBit i
theorem oc_all : ((List.range 4096).all fun m => ocF (m : Int) == (onesN m : Int) && (decide (1 ≤ onesN m) == decide (m ≠ 0))) = true := by decide +kernel
theorem oc_is {m : Nat} (h : m < 4096) : ocF (m : Int) = onesN m ∧ (1 ≤ onesN m ↔ m ≠ 0) := by
  have h1 := List.all_eq_true.1 oc_all m (List.mem_range.2 h)
  simp only [Bool.and_eq_true, beq_iff_eq, decide_eq_decide] at h1
  exact h1
set_option maxRecDepth 100000 in
set_option maxHeartbeats 8000000 in
theorem OnesCount64_any (m : Nat) (hm : m < 4096) (w : World) : Calls Try.prog 59 #[.int .u64 (m : Nat)] w fun e w' => e = .returned (.int .i64 (onesN m : Nat)) ∧ w' = w := by
  have HE := Lib.hid (oc_is hm).1
  go_enter Try.func59, Try.ntmps59
  go_wp2_with fail
  go_ret
  refine ⟨?_, rfl⟩
  simp only [List.getD, Array.getD_eq_getD_getElem?, List.getElem?_toArray, List.getElem?_cons_zero, List.getElem?_cons_succ, Option.getD_some]
  exact congrArg (fun z => Ending.returned (Value.int .i64 z)) HE.out
set_option maxRecDepth 100000 in
set_option maxHeartbeats 8000000 in
theorem OnesCount_any (m : Nat) (hm : m < 4096) (w : World) : Calls Try.prog 38 #[.int .u64 (m : Nat)] w fun e w' => e = .returned (.int .i64 (onesN m : Nat)) ∧ w' = w := by
  have H6 := Lib.hid (OnesCount64_any m hm)
  go_enter Try.func38, Try.ntmps38
  go_wp2_with fail
  refine (H6.out _).mono ?_
  rintro e w2 ⟨rfl, rfl⟩
  go_wp2_with fail
  go_ret
  exact ⟨rfl, rfl⟩
end Go.Proofs.Ytnacgogcbbpjmaa
