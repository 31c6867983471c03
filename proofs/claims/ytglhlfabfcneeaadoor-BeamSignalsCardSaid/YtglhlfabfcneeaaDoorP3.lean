/- Contracts of both Codes, and of the reference's codes and Letter. -/
import Derived.Test.YtglhlfabfcneeaaDoorP0
import Derived.Test.YtglhlfabfcneeaaDoorC1
import Derived.Laws.Rows
import Derived.Laws.Tables
namespace Go.Proofs.YtglhlfabfcneeaaDoor
open Go.RowKit Go.Shelf

def codesA : Array Value := #[.string ⟨#[46, 45, 46, 45, 46]⟩, .string ⟨#[46, 45]⟩, .string ⟨#[45, 46, 46, 46]⟩, .string ⟨#[45, 46, 45, 46]⟩, .string ⟨#[45, 46, 46]⟩, .string ⟨#[46]⟩, .string ⟨#[46, 46, 45, 46]⟩, .string ⟨#[45, 45, 46]⟩, .string ⟨#[46, 46, 46, 46]⟩, .string ⟨#[46, 46]⟩, .string ⟨#[46, 45, 45, 45]⟩, .string ⟨#[45, 46, 45]⟩, .string ⟨#[46, 45, 46, 46]⟩, .string ⟨#[45, 45]⟩, .string ⟨#[45, 46]⟩, .string ⟨#[45, 45, 45]⟩, .string ⟨#[46, 45, 45, 46]⟩, .string ⟨#[45, 45, 46, 45]⟩, .string ⟨#[46, 45, 46]⟩, .string ⟨#[46, 46, 46]⟩, .string ⟨#[45]⟩, .string ⟨#[46, 46, 45]⟩, .string ⟨#[46, 46, 46, 45]⟩, .string ⟨#[46, 45, 45]⟩, .string ⟨#[45, 46, 46, 45]⟩, .string ⟨#[45, 46, 45, 45]⟩, .string ⟨#[45, 45, 46, 46]⟩, .string ⟨#[45, 45, 45, 46]⟩, .string ⟨#[45, 45, 45, 45]⟩]

theorem codesA_map : codesA = (codesL.map (fun l => Value.string (B l))).toArray := rfl
theorem codesA_at (k : Nat) (hk : k < 29) : codesA[k]? = some (.string (B (codeL k))) := by
  have hl : codesL.length = 29 := rfl
  rw [codesA_map]
  simp [codeL, List.getElem?_eq_getElem (show k < codesL.length by omega)]
abbrev emptyA : Array Value := #[.string ⟨#[]⟩, .string ⟨#[]⟩, .string ⟨#[]⟩, .string ⟨#[]⟩, .string ⟨#[]⟩, .string ⟨#[]⟩, .string ⟨#[]⟩, .string ⟨#[]⟩, .string ⟨#[]⟩, .string ⟨#[]⟩, .string ⟨#[]⟩, .string ⟨#[]⟩, .string ⟨#[]⟩, .string ⟨#[]⟩, .string ⟨#[]⟩, .string ⟨#[]⟩, .string ⟨#[]⟩, .string ⟨#[]⟩, .string ⟨#[]⟩, .string ⟨#[]⟩, .string ⟨#[]⟩, .string ⟨#[]⟩, .string ⟨#[]⟩, .string ⟨#[]⟩, .string ⟨#[]⟩, .string ⟨#[]⟩, .string ⟨#[]⟩, .string ⟨#[]⟩, .string ⟨#[]⟩]
theorem codes_info : (Tryd.prog.info? 72).map (·.size) = some codesA.size := by kernel_rfl
theorem codes_zero : emptyA.size = codesA.size := by kernel_rfl
theorem codes_one : codesA.all (·.oneCell') = true := by kernel_rfl

theorem rcodes_any (w : World) : Calls Tryd.prog 45 #[] w fun e w' => e = .returned (.agg codesA) ∧ Below w.heap.size w w' := by
  have h0 := heap_alloc_new w (.cells emptyA 72)
  have H0 := Lib.hid h0
  clear h0
  go_enter Tryd.func45, Tryd.ntmps45
  go_wp2_with ((with_reducible refine wpList_store_row rfl 72 _ _ rfl w.heap.size codesA ?_ ?_ 72 emptyA H0.out codes_info codes_zero codes_one ?_); exact rfl; exact rfl)
  refine bodyPost_ret (v := .agg codesA) (results_cell_row rfl _ _ w.heap.size 72 codesA (0, 0) _ rfl (setRow_heap _ _ _ _ _ _ H0.out) Tryd.underlying72 rfl codes_info) rfl ⟨rfl, below_setRow ((Below.refl _ w).alloc (Nat.le_refl _) _) (Nat.le_refl _) _⟩

def codeV (b : UInt8) : Value := if valI b < 0 then .tuple #[.string ⟨#[]⟩, .bool false] else .tuple #[.string (B (codeL (valI b).toNat)), .bool true]
theorem codeV_no {b : UInt8} (h : valI b < 0) : codeV b = .tuple #[.string ⟨#[]⟩, .bool false] := by unfold codeV; rw [if_pos h]
theorem codeV_ok {b : UInt8} {k : Nat} (h : valI b = k) : codeV b = .tuple #[.string (B (codeL k)), .bool true] := by unfold codeV; rw [if_neg (by omega), h]; rfl

theorem code_any (b : UInt8) (w : World) (hC : Codes w) :
    Calls Tryd.prog 13 #[.int .u8 b.toNat] w fun e w' => e = .returned (codeV b) ∧ w = w' := by
  have hv := valI_bd b
  by_cases h : valI b < 0
  · have HV := Lib.hid (codeV_no h)
    go_enter Tryd.func13, Tryd.ntmps13
    go_wp2_with (go_at_call 19; refine (value_any _ _).mono ?_; rintro e w' ⟨rfl, rfl⟩)
    go_ret2
    exact ⟨ret_val HV.out.symm, rfl⟩
  · obtain ⟨k, hk⟩ : ∃ k : Nat, valI b = k := ⟨(valI b).toNat, by omega⟩
    have HV := Lib.hid (codeV_ok hk)
    have HK := Lib.hid hk
    have hk29 : k < 29 := by omega
    have hc := hC k hk29
    have hk29i : (k : Int) < 29 := by omega
    clear hC hk h hv
    go_enter Tryd.func13, Tryd.ntmps13
    go_wp2_with fail
    refine (value_any _ _).mono ?_
    rintro e w' ⟨rfl, rfl⟩
    rw [HK.out]
    go_wp2_with fail
    go_ret2
    exact ⟨ret_val HV.out.symm, rfl⟩
end Go.Proofs.YtglhlfabfcneeaaDoor
