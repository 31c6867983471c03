/- mirrored of the law: where a place of a map is on the map that is turned over. -/
import Derived.Test.YtjllkmekchmmbaaHG0
set_option linter.unusedVariables false
set_option linter.unusedSimpArgs false
namespace Go.Proofs.Ytjllkmekchmmbaa
open Go Go.RowKit

def mirX (wd h : Int) (p : Pl) : Pl := if h % 2 = 1 then (wd - 1 - p.1, p.2) else p
def mirY (hg h : Int) (p : Pl) : Pl := if h / 2 % 2 = 1 then (p.1, hg - 1 - p.2) else p
def mirS (h : Int) (p : Pl) : Pl := if h / 4 % 2 = 1 then (p.2, p.1) else p
/-- Where a place is on the map that is turned over. -/
def mirP (wd hg h : Int) (p : Pl) : Pl := mirS h (mirY hg h (mirX wd h p))
set_option maxRecDepth 100000 in
set_option maxHeartbeats 4000000 in
theorem mirrored_any (wd hg : Int) (o : Value) (h : Int) (p : Pl) (w : World) (h0 : 0 ≤ h ∧ h ≤ 255) (hw : 1 ≤ wd ∧ wd ≤ 49) (hh : 1 ≤ hg ∧ hg ≤ 49) (hp : 0 ≤ p.1 ∧ p.1 ≤ 48 ∧ 0 ≤ p.2 ∧ p.2 ≤ 48) :
    Calls Try.prog 32 #[mpV wd hg o, .int .u8 h, plV p] w fun e w' => e = .returned (plV (mirP wd hg h p)) ∧ Below w.heap.size w w' := by
  obtain ⟨x, y⟩ := p
  simp only at hp
  have e1 : wrap64 (wd - 1) = wd - 1 := w64 (by omega)
  have e2 : wrap64 (wd - 1 - x) = wd - 1 - x := w64 (by omega)
  have e3 : wrap64 (hg - 1) = hg - 1 := w64 (by omega)
  have e4 : wrap64 (hg - 1 - y) = hg - 1 - y := w64 (by omega)
  have b1 : h % 2 = 1 ∨ h % 2 = 0 := by omega
  have b2 : h / 2 % 2 = 1 ∨ h / 2 % 2 = 0 := by omega
  have b3 : h / 4 % 2 = 1 ∨ h / 4 % 2 = 0 := by omega
  unfold mpV
  rcases b1 with b1 | b1 <;> rcases b2 with b2 | b2 <;> rcases b3 with b3 | b3
  · have HM : Hid (mirP wd hg h (x, y) = ((hg - 1 - y), (wd - 1 - x))) := Lib.hid (by unfold mirP mirS mirY mirX; simp [b1, b2, b3])
    rw [HM.out]
    unfold plV
    simp only
    go_enter Try.func32, Try.ntmps32
    go_wp2_with fail
    exact bodyPost_ret (results_cell_row Try.results32 _ _ (w.heap.size + 1 + 1) 30 #[.int .i64 (hg - 1 - y), .int .i64 (wd - 1 - x)] (0, 0) _ rfl (gAt _ _ _ (by simp)) Try.underlying30 rfl info_pl2) rfl ⟨rfl, (((Below.refl _ w).alloc (Nat.le_refl _) _).alloc (by simp) _).alloc (by simp; omega) _⟩
  · have HM : Hid (mirP wd hg h (x, y) = ((wd - 1 - x), (hg - 1 - y))) := Lib.hid (by unfold mirP mirS mirY mirX; simp [b1, b2, b3])
    rw [HM.out]
    unfold plV
    simp only
    go_enter Try.func32, Try.ntmps32
    go_wp2_with fail
    exact bodyPost_ret (results_cell_row Try.results32 _ _ (w.heap.size + 1 + 1) 30 #[.int .i64 (wd - 1 - x), .int .i64 (hg - 1 - y)] (0, 0) _ rfl (gAt _ _ _ (by simp)) Try.underlying30 rfl info_pl2) rfl ⟨rfl, (((Below.refl _ w).alloc (Nat.le_refl _) _).alloc (by simp) _).alloc (by simp; omega) _⟩
  · have HM : Hid (mirP wd hg h (x, y) = (y, (wd - 1 - x))) := Lib.hid (by unfold mirP mirS mirY mirX; simp [b1, b2, b3])
    rw [HM.out]
    unfold plV
    simp only
    go_enter Try.func32, Try.ntmps32
    go_wp2_with fail
    exact bodyPost_ret (results_cell_row Try.results32 _ _ (w.heap.size + 1 + 1) 30 #[.int .i64 y, .int .i64 (wd - 1 - x)] (0, 0) _ rfl (gAt _ _ _ (by simp)) Try.underlying30 rfl info_pl2) rfl ⟨rfl, (((Below.refl _ w).alloc (Nat.le_refl _) _).alloc (by simp) _).alloc (by simp; omega) _⟩
  · have HM : Hid (mirP wd hg h (x, y) = ((wd - 1 - x), y)) := Lib.hid (by unfold mirP mirS mirY mirX; simp [b1, b2, b3])
    rw [HM.out]
    unfold plV
    simp only
    go_enter Try.func32, Try.ntmps32
    go_wp2_with fail
    exact bodyPost_ret (results_cell_row Try.results32 _ _ (w.heap.size + 1 + 1) 30 #[.int .i64 (wd - 1 - x), .int .i64 y] (0, 0) _ rfl (gAt _ _ _ (by simp)) Try.underlying30 rfl info_pl2) rfl ⟨rfl, (((Below.refl _ w).alloc (Nat.le_refl _) _).alloc (by simp) _).alloc (by simp; omega) _⟩
  · have HM : Hid (mirP wd hg h (x, y) = ((hg - 1 - y), x)) := Lib.hid (by unfold mirP mirS mirY mirX; simp [b1, b2, b3])
    rw [HM.out]
    unfold plV
    simp only
    go_enter Try.func32, Try.ntmps32
    go_wp2_with fail
    exact bodyPost_ret (results_cell_row Try.results32 _ _ (w.heap.size + 1 + 1) 30 #[.int .i64 (hg - 1 - y), .int .i64 x] (0, 0) _ rfl (gAt _ _ _ (by simp)) Try.underlying30 rfl info_pl2) rfl ⟨rfl, (((Below.refl _ w).alloc (Nat.le_refl _) _).alloc (by simp) _).alloc (by simp; omega) _⟩
  · have HM : Hid (mirP wd hg h (x, y) = (x, (hg - 1 - y))) := Lib.hid (by unfold mirP mirS mirY mirX; simp [b1, b2, b3])
    rw [HM.out]
    unfold plV
    simp only
    go_enter Try.func32, Try.ntmps32
    go_wp2_with fail
    exact bodyPost_ret (results_cell_row Try.results32 _ _ (w.heap.size + 1 + 1) 30 #[.int .i64 x, .int .i64 (hg - 1 - y)] (0, 0) _ rfl (gAt _ _ _ (by simp)) Try.underlying30 rfl info_pl2) rfl ⟨rfl, (((Below.refl _ w).alloc (Nat.le_refl _) _).alloc (by simp) _).alloc (by simp; omega) _⟩
  · have HM : Hid (mirP wd hg h (x, y) = (y, x)) := Lib.hid (by unfold mirP mirS mirY mirX; simp [b1, b2, b3])
    rw [HM.out]
    unfold plV
    simp only
    go_enter Try.func32, Try.ntmps32
    go_wp2_with fail
    exact bodyPost_ret (results_cell_row Try.results32 _ _ (w.heap.size + 1 + 1) 30 #[.int .i64 y, .int .i64 x] (0, 0) _ rfl (gAt _ _ _ (by simp)) Try.underlying30 rfl info_pl2) rfl ⟨rfl, (((Below.refl _ w).alloc (Nat.le_refl _) _).alloc (by simp) _).alloc (by simp; omega) _⟩
  · have HM : Hid (mirP wd hg h (x, y) = (x, y)) := Lib.hid (by unfold mirP mirS mirY mirX; simp [b1, b2, b3])
    rw [HM.out]
    unfold plV
    simp only
    go_enter Try.func32, Try.ntmps32
    go_wp2_with fail
    exact bodyPost_ret (results_cell_row Try.results32 _ _ (w.heap.size + 1 + 1) 30 #[.int .i64 x, .int .i64 y] (0, 0) _ rfl (gAt _ _ _ (by simp)) Try.underlying30 rfl info_pl2) rfl ⟨rfl, (((Below.refl _ w).alloc (Nat.le_refl _) _).alloc (by simp) _).alloc (by simp; omega) _⟩
end Go.Proofs.Ytjllkmekchmmbaa
