/- Results of package beam. -/
import Derived.Test.YtgcaldceiogkaaaDoorF4
import Derived.Test.YtgcaldceiogkaaaDoorE3
namespace Go.Proofs.YtgcaldceiogkaaaDoor
open Go.RowKit Go.Shelf

def resE (s : List UInt8) (n : Int) : Int := orI (flashE s 100) (faultsE n)
theorem resE_ok {s : List UInt8} {n : Int} (h : resE s n = 0) : s.length ≤ 100 ∧ 0 ≤ n ∧ n ≤ 2 := by
  unfold resE orI at h
  split at h
  · rename_i c
    have h1 := flashE_le' c
    unfold faultsE at h; split at h
    · cases h
    · exact ⟨by omega, by omega, by omega⟩
  · contradiction

theorem Results_err (s : ByteArray) (n : Int) (w : World) (hs : s.size ≤ maxLen) (hE : resE s.data.toList n ≠ 0) :
    Calls Tryd.prog 18 #[.string s, .int .i64 n] w fun e w' => e = .returned (.tuple #[.slice none 0 0, .int .i64 (resE s.data.toList n)]) ∧ Below w.heap.size w w' := by
  obtain ⟨q, eq⟩ : ∃ q, resE s.data.toList n = q := ⟨_, rfl⟩
  rw [eq] at hE ⊢
  have hne : (q != 0) = true := by simpa using hE
  have HQ : Hid (orI (flashE s.data.toList 100) (faultsE n) = q) := Lib.hid eq
  clear hE eq
  go_enter Tryd.func18, Tryd.ntmps18
  go_wp2_with fail
  refine (checkFlashes_any _ _ _ hs).mono ?_
  rintro e w' ⟨rfl, rfl⟩
  go_wp2_with fail
  refine (checkFaults_any _ _).mono ?_
  rintro e w' ⟨rfl, rfl⟩
  go_wp2_with fail
  refine (or_two _ _ _ _ (cell_two0 _ _ _ _) (cell_two1 _ _ _ _)).mono ?_
  rintro e w'' ⟨rfl, rfl⟩
  rw [HQ.out]
  go_wp2_with fail
  go_ret2
  exact ⟨ret_val rfl, (Below.refl _ _).alloc (Nat.le_refl _) _⟩

theorem Results_ok (s : List UInt8) (n : Nat) (w : World) (hE : resE s n = 0) :
    Calls Tryd.prog 18 #[.string (B s), .int .i64 n] w fun e w' =>
      ∃ (r cap : Nat), e = .returned (.tuple #[.slice (some ⟨r, 0, none⟩) (resL s n).length cap, .int .i64 0]) ∧ w'.ownsRow w.heap.size 9 1 (.slice (some ⟨r, 0, none⟩) (resL s n).length cap) (resL s n).length ((resL s n).map encStr) ∧ Below w.heap.size w w' := by
  obtain ⟨h1, h2, h3⟩ := resE_ok hE
  have hs : (B s).size ≤ maxLen := by rw [size_B]; unfold maxLen; omega
  have HQ : Hid (orI (flashE s 100) (faultsE n) = 0) := Lib.hid hE
  have hn2 : n ≤ 2 := by omega
  clear hE h3 h2
  go_enter Tryd.func18, Tryd.ntmps18
  go_wp2_with fail
  refine (checkFlashes_any _ _ _ hs).mono ?_
  rintro e w' ⟨rfl, rfl⟩
  go_wp2_with fail
  refine (checkFaults_any _ _).mono ?_
  rintro e w' ⟨rfl, rfl⟩
  go_wp2_with fail
  refine (or_two _ _ _ _ (cell_two0 _ _ _ _) (cell_two1 _ _ _ _)).mono ?_
  rintro e w'' ⟨rfl, rfl⟩
  rw [HQ.out]
  go_wp2_with fail
  refine (results_any s n _ h1 hn2).mono ?_
  rintro e w2 ⟨r, cap, rfl, hrow, hb2⟩
  have hz : w.heap.size ≤ w.heap.size + 1 := by omega
  have hrow2 := hrow.mono_base (base' := w.heap.size) (by simp)
  have hb3 := (Below.refl w.heap.size w).alloc (Nat.le_refl _) (.cells #[.int .i64 (flashE s 100), .int .i64 (faultsE n)] 24) |>.trans (hb2.mono (by simp))
  clear hrow hb2
  go_wp2_with fail
  go_ret2
  exact ⟨r, cap, rfl, hrow2, hb3⟩
end Go.Proofs.YtgcaldceiogkaaaDoor
