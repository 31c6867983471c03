/- Split of package beam. -/
import Derived.Test.YtgcaldceiogkaaaDoorU1
import Derived.Test.YtgcaldceiogkaaaDoorS7
import Derived.Test.YtgcaldceiogkaaaDoorF0
import Derived.Test.YtgcaldceiogkaaaDoorC1
namespace Go.Proofs.YtgcaldceiogkaaaDoor
open Go.RowKit Go.Shelf

/-- The greatest length for which the library searches byte by byte: whatever. -/
def Mx (w : World) : Prop := ∃ m : Int, w.cell? ⟨2, 0, none⟩ = some (.int .i64 m)
theorem Mx.below {w w' : World} (h : Mx w) (hb : Below w.heap.size w w') : Mx w' := by
  obtain ⟨m, h⟩ := h
  have hlt : 2 < w.heap.size := by
    unfold World.cell? at h
    split at h
    · rename_i hb'; exact (Array.getElem?_eq_some_iff.1 hb').1
    · cases h
  exact ⟨m, (hb.cell (p := ⟨2, 0, none⟩) hlt).trans h⟩
def encS (x : List UInt8) : Value := .string (B x)
theorem info_strS : (Tryd.prog.info? 9).map (fun i => (i.zero, i.size, i.bytes)) = some (some (.string ⟨#[]⟩), 1, 16) := by kernel_rfl
theorem cell_one_newS (W : World) (v : Value) (t : TypeId) : ∀ j u, [v][j]? = some u → (W.alloc (.cells #[v] t)).cell? ((⟨W.heap.size, 0, none⟩ : Addr).add j) = some u := fun j u h => by
  have hj : j = 0 := by
    rcases Nat.eq_zero_or_pos j with h0 | h0
    · exact h0
    · rw [List.getElem?_eq_none (by simp; omega)] at h; cases h
  subst hj
  simp at h
  subst h
  show (W.alloc (.cells #[v] t)).cell? ⟨W.heap.size, 0, none⟩ = _
  rw [World.cell?_alloc_new]; rfl

theorem head_run (W : World) (R : List UInt8) (k : Nat) (hk : k ≤ R.length) (y : Int) (hy : y = k) : (Instr.slice 9 (.string (B R)) none (some (.int .i64 y)) none).run Tryd.prog W = .ok (.string (B (R.take k))) W := by
  rw [run_slice_string_h _ _ _ Tryd.underlying9 _ _ (by omega) (by rw [size_B]; omega)]
  have : (B R).extract 0 y.toNat = B (R.take k) := by
    rw [show y.toNat = k by omega, cutL_extract R 0 k (by omega)]; unfold cutL; simp
  rw [this]
theorem tail_run (W : World) (R : List UInt8) (k : Nat) (hk : k ≤ R.length) (y : Int) (hy : y = k) : (Instr.slice 9 (.string (B R)) (some (.int .i64 y)) none none).run Tryd.prog W = .ok (.string (B (R.drop k))) W := by
  rw [run_slice_string_l _ _ _ Tryd.underlying9 _ _ (by omega) (by rw [size_B]; omega)]
  have : (B R).extract y.toNat (B R).size = B (R.drop k) := by
    rw [show y.toNat = k by omega, size_B, drop_extract]
  rw [this]

theorem index_none (R : List UInt8) (w : World) (hs : R.length ≤ 1000000) (hM : Mx w) (he : endL R = 0) :
    Calls Tryd.prog 47 #[.string (B R), .string ⟨#[47, 47]⟩] w fun e w' => e = .returned (.int .i64 (-1)) ∧ w = w' := by
  obtain ⟨m, hm⟩ := hM
  refine (Tryd.strings_Index (B R) _ m w (by rw [size_B]; omega) hm).mono ?_
  rintro e w' ⟨rfl, rfl⟩
  refine ⟨ret_int ?_, rfl⟩
  rw [L_B, show (⟨#[47, 47]⟩ : ByteArray).data.toList = [47, 47] from rfl, end_index, if_pos he]
theorem index_some (R : List UInt8) (k : Nat) (w : World) (hs : R.length ≤ 1000000) (hM : Mx w) (he : endL R = k + 2) :
    Calls Tryd.prog 47 #[.string (B R), .string ⟨#[47, 47]⟩] w fun e w' => e = .returned (.int .i64 k) ∧ w = w' := by
  obtain ⟨m, hm⟩ := hM
  refine (Tryd.strings_Index (B R) _ m w (by rw [size_B]; omega) hm).mono ?_
  rintro e w' ⟨rfl, rfl⟩
  refine ⟨ret_int ?_, rfl⟩
  rw [L_B, show (⟨#[47, 47]⟩ : ByteArray).data.toList = [47, 47] from rfl, end_index, if_neg (by omega)]
  omega

/-- What Split answers: the slice lies in memory. -/
def SplitPost (w : World) (s : List UInt8) (e : Ending) (w' : World) : Prop :=
  ∃ v, e = .returned (.tuple #[v, .string (B (splitP s).2), .int .i64 0]) ∧ SRow w' v (splitP s).1 ∧ Below w.heap.size w w'

theorem Split_err (s : ByteArray) (w : World) (hs : s.size ≤ maxLen) (hE : flashE s.data.toList 4000 ≠ 0) :
    Calls Tryd.prog 23 #[.string s] w fun e w' => e = .returned (.tuple #[.slice none 0 0, .string ⟨#[]⟩, .int .i64 (flashE s.data.toList 4000)]) ∧ w = w' := by
  obtain ⟨q, eq⟩ : ∃ q, flashE s.data.toList 4000 = q := ⟨_, rfl⟩
  rw [eq] at hE ⊢
  have hne : (q != 0) = true := by simpa using hE
  have HQ := Lib.hid eq
  clear hE eq
  go_enter Tryd.func23, Tryd.ntmps23
  go_wp2_with fail
  refine (checkFlashes_any _ _ _ hs).mono ?_
  rintro e w' ⟨rfl, rfl⟩
  rw [HQ.out]
  go_wp2_with fail
  go_ret3
  exact ⟨rfl, rfl⟩

set_option maxRecDepth 100000 in
set_option maxHeartbeats 1000000 in
theorem Split_ok (s : List UInt8) (w : World) (hE : flashE s 4000 = 0) (hM : Mx w) :
    Calls Tryd.prog 23 #[.string (B s)] w (SplitPost w s) := by
  have h4 := flashE_le' hE
  have hs : (B s).size ≤ maxLen := by rw [size_B]; unfold maxLen; omega
  have HE : Hid (flashE (B s).data.toList 4000 = 0) := Lib.hid (by rw [L_B]; exact hE)
  have HM := Lib.hid hM
  have hl4 : s.length ≤ 4000 := by omega
  obtain ⟨i0, hi, hz0, hz1, hz2⟩ := info_parts info_strS
  clear hE hM h4
  go_enter Tryd.func23, Tryd.ntmps23
  go_wp2_with fail
  refine (checkFlashes_any _ _ _ hs).mono ?_
  rintro e w' ⟨rfl, rfl⟩
  rw [HE.out]
  go_wp2_with fail
  go_loopw [6, 7] (fun p r wr => ∃ (P : List (List UInt8)) (R : List UInt8), r = .string (B R) ∧ wr.ownsRow w.heap.size 9 1 p P.length (P.map encS) ∧ P.length + R.length ≤ s.length ∧ Hid (cutSo s P R) ∧ Below w.heap.size w wr) (fun _ r _ => strLen r)
  case atStart => exact ⟨[], s, rfl, World.ownsRow_nil _ _ _ _, by simp, Lib.hid (cutSo_start s), Below.refl _ _⟩
  case round =>
    obtain ⟨P, R, rfl, hrow, hlen, hcut, hB⟩ := hrel
    have HMr := Lib.hid (HM.out.below hB)
    by_cases he : endL R = 0
    · have HP := Lib.hid (cutSo_end hcut.out he)
      have HI := Lib.hid (index_none R wr (by omega) HMr.out he)
      clear he
      go_wp2_with fail
      refine HI.out.mono ?_
      rintro e w' ⟨rfl, rfl⟩
      go_wp2_with fail
      go_ret3
      exact ⟨_, ret_val (by rw [HP.out]; rfl), by rw [HP.out]; exact SRow.of_owned hrow, hB⟩
    · obtain ⟨h2, h3, _, _⟩ := end_spec R he
      obtain ⟨k, hk⟩ : ∃ k, endL R = k + 2 := ⟨endL R - 2, by omega⟩
      have HP := Lib.hid (cutSo_step hcut.out he)
      have HI := Lib.hid (index_some R k wr (by omega) HMr.out hk)
      rw [hk] at HP h3
      have hr1 := fun W => head_run W R (k + 2) h3 ((k : Int) + 2) (by omega)
      have hr2 := fun W => tail_run W R (k + 2) h3 ((k : Int) + 2) (by omega)
      have hdl : (R.drop (k + 2)).length = R.length - (k + 2) := List.length_drop
      clear he h2 hk
      go_wp2_with fail
      refine HI.out.mono ?_
      rintro e w' ⟨rfl, rfl⟩
      go_wp2_with (at_builtin; refine wpList_append_own _ rfl _ _ 36 rfl w.heap.size 9 i0 (.string ⟨#[]⟩) 1 16 Tryd.underlying36 hi hz0 hz1 hz2 rfl (by decide) _ _ _ rfl (hrow.alloc _) ⟨wr.heap.size, 0, none⟩ 1 1 [.string (B (R.take (k + 2)))] rfl rfl (cell_one_newS _ _ _) (by simp [Value.oneCell']) (by unfold maxLen; omega) (by omega) (by have := hB.size; simp; omega) ?_; intro v' w2 hown' hgrow _)
      go_roundw
      case rel => exact ⟨P ++ [R.take (k + 2)], R.drop (k + 2), rfl, by simpa [encS] using hown', by rw [hdl]; simp; omega, HP, (hB.alloc hB.size _).grown hgrow (by have := hB.size; simp; omega) (fun k e => (hrow.lt k e).1)⟩
      case measure => simp [strLen, hdl]; omega
end Go.Proofs.YtgcaldceiogkaaaDoor
