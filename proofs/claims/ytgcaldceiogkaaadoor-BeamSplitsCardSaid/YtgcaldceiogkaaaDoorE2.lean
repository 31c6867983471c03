/- filled and fewest of package beam. -/
import Derived.Test.YtgcaldceiogkaaaDoorE1
namespace Go.Proofs.YtgcaldceiogkaaaDoor
open Go.RowKit Go.Shelf

/-- fewest: the number in the last row and column, if it is not too great. -/
def fewV (T : Nat → Nat → Int) (n m : Nat) (most : Int) : Value := if T n m ≤ most then .tuple #[.int .i64 (T n m), .bool true] else .tuple #[.int .i64 0, .bool false]

set_option maxRecDepth 100000 in
theorem sfewest_any (w : World) (Sb base : Nat) (r : List UInt8) (most : Int) (sent : List UInt8) (T : Nat → Nat → Int) (hS : Sheet w Sb base r most sent T) (hm : 0 ≤ most ∧ most ≤ 100) :
    Calls Tryd.prog 38 #[.pointer (some ⟨Sb, 0, none⟩)] w fun e w' => e = .returned (fewV T sent.length r.length most) ∧ Below w.heap.size w w' := by
  have hlen := hS.len
  have hlenr := hS.lenr
  have hft := hS.fits sent.length r.length (by omega) (by omega)
  obtain ⟨C, sv, hh, hC, h0, h1, h2, hrow, hT⟩ := hS.lay
  have c0 : w.cell? ⟨Sb, 0, none⟩ = some (.string (B r)) := by rw [cell_of_heap hh]; exact h0
  have c1 : w.cell? ⟨Sb, 1, none⟩ = some (.int .i64 most) := by rw [cell_of_heap hh]; exact h1
  have c2 : w.cell? ⟨Sb, 2, none⟩ = some sv := by rw [cell_of_heap hh]; exact h2
  have cT : w.cell? ⟨Sb, 3 + sent.length * 101 + r.length, none⟩ = some (.int .i16 (T sent.length r.length)) := by rw [cell_of_heap hh]; exact hT _ _ (by omega) (by omega)
  obtain ⟨a, cap, rfl⟩ : ∃ a cap, sv = .slice a sent.length cap := by
    rcases hrow.2 with ⟨h, h'⟩ | ⟨g, cap, cur, hv, _⟩
    · exact ⟨none, 0, by rw [h, show sent.length = 0 by omega]⟩
    · exact ⟨_, _, hv⟩
  obtain ⟨t, et⟩ : ∃ t, T sent.length r.length = t := ⟨_, rfl⟩
  rw [et] at cT hft
  have wt : IntKind.i64.wrap t = t := IntWalk.i64_in _ (by omega)
  have HF : Hid (fewV T sent.length r.length most = if t ≤ most then .tuple #[.int .i64 t, .bool true] else .tuple #[.int .i64 0, .bool false]) := Lib.hid (by unfold fewV; rw [et])
  clear et hS hh hC h0 h1 h2 hrow hT
  by_cases hc : t ≤ most
  · have HF2 := Lib.hid (HF.out.trans (if_pos hc))
    have hq : decide (most < t) = false := decide_eq_false (by omega)
    clear hc HF
    go_enter Tryd.func38, Tryd.ntmps38
    go_wp2_with fail
    go_quiet (fail)
    go_wp2_with fail
    go_ret2
    exact ⟨ret_val (by rw [HF2.out]; rfl), below_drewN (Below.refl _ _) _⟩
  · have HF2 := Lib.hid (HF.out.trans (if_neg hc))
    have hq : decide (most < t) = true := decide_eq_true (by omega)
    clear hc HF
    go_enter Tryd.func38, Tryd.ntmps38
    go_wp2_with fail
    go_quiet (fail)
    go_wp2_with fail
    go_ret2
    exact ⟨ret_val (by rw [HF2.out]; rfl), below_drewN (Below.refl _ _) _⟩
end Go.Proofs.YtgcaldceiogkaaaDoor
