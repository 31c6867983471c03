/- Contracts of both Codes, and of the reference's codes and Letter. -/
import Derived.Test.YtjhkgfbkpgnodaaGreatDoorP0
import Derived.Test.YtjhkgfbkpgnodaaGreatDoorC1
import Derived.Laws.Rows
import Derived.Laws.Tables
namespace Go.Proofs.YtjhkgfbkpgnodaaGreatDoor
open Go.RowKit Go.Shelf

def codesA : Array Value := #[.string ⟨#[46, 45, 46, 45, 46]⟩, .string ⟨#[46, 45]⟩, .string ⟨#[45, 46, 46, 46]⟩, .string ⟨#[45, 46, 45, 46]⟩, .string ⟨#[45, 46, 46]⟩, .string ⟨#[46]⟩, .string ⟨#[46, 46, 45, 46]⟩, .string ⟨#[45, 45, 46]⟩, .string ⟨#[46, 46, 46, 46]⟩, .string ⟨#[46, 46]⟩, .string ⟨#[46, 45, 45, 45]⟩, .string ⟨#[45, 46, 45]⟩, .string ⟨#[46, 45, 46, 46]⟩, .string ⟨#[45, 45]⟩, .string ⟨#[45, 46]⟩, .string ⟨#[45, 45, 45]⟩, .string ⟨#[46, 45, 45, 46]⟩, .string ⟨#[45, 45, 46, 45]⟩, .string ⟨#[46, 45, 46]⟩, .string ⟨#[46, 46, 46]⟩, .string ⟨#[45]⟩, .string ⟨#[46, 46, 45]⟩, .string ⟨#[46, 46, 46, 45]⟩, .string ⟨#[46, 45, 45]⟩, .string ⟨#[45, 46, 46, 45]⟩, .string ⟨#[45, 46, 45, 45]⟩, .string ⟨#[45, 45, 46, 46]⟩, .string ⟨#[45, 45, 45, 46]⟩, .string ⟨#[45, 45, 45, 45]⟩]

theorem codesA_map : codesA = (codesL.map (fun l => Value.string (B l))).toArray := rfl
theorem codesA_at (k : Nat) (hk : k < 29) : codesA[k]? = some (.string (B (codeL k))) := by
  have hl : codesL.length = 29 := rfl
  rw [codesA_map]
  simp [codeL, List.getElem?_eq_getElem (show k < codesL.length by omega)]
abbrev emptyA : Array Value := #[.string ⟨#[]⟩, .string ⟨#[]⟩, .string ⟨#[]⟩, .string ⟨#[]⟩, .string ⟨#[]⟩, .string ⟨#[]⟩, .string ⟨#[]⟩, .string ⟨#[]⟩, .string ⟨#[]⟩, .string ⟨#[]⟩, .string ⟨#[]⟩, .string ⟨#[]⟩, .string ⟨#[]⟩, .string ⟨#[]⟩, .string ⟨#[]⟩, .string ⟨#[]⟩, .string ⟨#[]⟩, .string ⟨#[]⟩, .string ⟨#[]⟩, .string ⟨#[]⟩, .string ⟨#[]⟩, .string ⟨#[]⟩, .string ⟨#[]⟩, .string ⟨#[]⟩, .string ⟨#[]⟩, .string ⟨#[]⟩, .string ⟨#[]⟩, .string ⟨#[]⟩, .string ⟨#[]⟩]
theorem codes_info : (Tryz.prog.info? 152).map (·.size) = some codesA.size := by kernel_rfl
theorem codes_zero : emptyA.size = codesA.size := by kernel_rfl
theorem codes_one : codesA.all (·.oneCell') = true := by kernel_rfl

theorem rcodes_any (w : World) : Calls Tryz.prog 115 #[] w fun e w' => e = .returned (.agg codesA) ∧ Below w.heap.size w w' := by
  have h0 := heap_alloc_new w (.cells emptyA 152)
  have H0 := Lib.hid h0
  clear h0
  go_enter Tryz.func115, Tryz.ntmps115
  go_wp2_with ((with_reducible refine wpList_store_row rfl 152 _ _ rfl w.heap.size codesA ?_ ?_ 152 emptyA H0.out codes_info codes_zero codes_one ?_); exact rfl; exact rfl)
  refine bodyPost_ret (v := .agg codesA) (results_cell_row rfl _ _ w.heap.size 152 codesA (0, 0) _ rfl (setRow_heap _ _ _ _ _ _ H0.out) Tryz.underlying152 rfl codes_info) rfl ⟨rfl, below_setRow ((Below.refl _ w).alloc (Nat.le_refl _) _) (Nat.le_refl _) _⟩

def codeV (b : UInt8) : Value := if valI b < 0 then .tuple #[.string ⟨#[]⟩, .bool false] else .tuple #[.string (B (codeL (valI b).toNat)), .bool true]
theorem codeV_no {b : UInt8} (h : valI b < 0) : codeV b = .tuple #[.string ⟨#[]⟩, .bool false] := by unfold codeV; rw [if_pos h]
theorem codeV_ok {b : UInt8} {k : Nat} (h : valI b = k) : codeV b = .tuple #[.string (B (codeL k)), .bool true] := by unfold codeV; rw [if_neg (by omega), h]; rfl
end Go.Proofs.YtjhkgfbkpgnodaaGreatDoor
