/- Split of package beam. -/
import Derived.Test.YtgcaldceiogkaaaDoorU1
import Derived.Test.YtgcaldceiogkaaaDoorS7
import Derived.Test.YtgcaldceiogkaaaDoorF0
import Derived.Test.YtgcaldceiogkaaaDoorC1
import Derived.Deep.RegionHeld3
import Derived.Deep.RegionLaw
import Derived.Deep.AppendLies
namespace Go.Proofs.YtgcaldceiogkaaaDoor
open Go.RowKit Go.Shelf

/-- The greatest length for which the library searches byte by byte: whatever. -/
def Mx (w : World) : Prop := ∃ m : Int, w.cell? ⟨2, 0, none⟩ = some (.int .i64 m)
theorem Mx.below {w w' : World} (h : Mx w) (hb : Below w.heap.size w w') : Mx w' := by
  obtain ⟨m, h⟩ := h
  have hlt : 2 < w.heap.size := by
    unfold World.cell? at h
    split at h
    · rename_i hb'; exact (Array.getElem?_eq_some_iff.1 hb').1
    · cases h
  exact ⟨m, (hb.cell (p := ⟨2, 0, none⟩) hlt).trans h⟩
def encS (x : List UInt8) : Value := .string (B x)
theorem info_strS : (Tryd.prog.info? 9).map (fun i => (i.zero, i.size, i.bytes)) = some (some (.string ⟨#[]⟩), 1, 16) := by kernel_rfl
theorem cell_one_newS (W : World) (v : Value) (t : TypeId) : ∀ j u, [v][j]? = some u → (W.alloc (.cells #[v] t)).cell? ((⟨W.heap.size, 0, none⟩ : Addr).add j) = some u := fun j u h => by
  have hj : j = 0 := by
    rcases Nat.eq_zero_or_pos j with h0 | h0
    · exact h0
    · rw [List.getElem?_eq_none (by simp; omega)] at h; cases h
  subst hj
  simp at h
  subst h
  show (W.alloc (.cells #[v] t)).cell? ⟨W.heap.size, 0, none⟩ = _
  rw [World.cell?_alloc_new]; rfl

theorem head_run (W : World) (R : List UInt8) (k : Nat) (hk : k ≤ R.length) (y : Int) (hy : y = k) : (Instr.slice 9 (.string (B R)) none (some (.int .i64 y)) none).run Tryd.prog W = .ok (.string (B (R.take k))) W := by
  rw [run_slice_string_h _ _ _ Tryd.underlying9 _ _ (by omega) (by rw [size_B]; omega)]
  have : (B R).extract 0 y.toNat = B (R.take k) := by
    rw [show y.toNat = k by omega, cutL_extract R 0 k (by omega)]; unfold cutL; simp
  rw [this]
theorem tail_run (W : World) (R : List UInt8) (k : Nat) (hk : k ≤ R.length) (y : Int) (hy : y = k) : (Instr.slice 9 (.string (B R)) (some (.int .i64 y)) none none).run Tryd.prog W = .ok (.string (B (R.drop k))) W := by
  rw [run_slice_string_l _ _ _ Tryd.underlying9 _ _ (by omega) (by rw [size_B]; omega)]
  have : (B R).extract y.toNat (B R).size = B (R.drop k) := by
    rw [show y.toNat = k by omega, size_B, drop_extract]
  rw [this]

theorem index_none (R : List UInt8) (w : World) (hs : R.length ≤ 1000000) (hM : Mx w) (he : endL R = 0) :
    Calls Tryd.prog 47 #[.string (B R), .string ⟨#[47, 47]⟩] w fun e w' => e = .returned (.int .i64 (-1)) ∧ w = w' := by
  obtain ⟨m, hm⟩ := hM
  refine (Tryd.strings_Index (B R) _ m w (by rw [size_B]; omega) hm).mono ?_
  rintro e w' ⟨rfl, rfl⟩
  refine ⟨ret_int ?_, rfl⟩
  rw [L_B, show (⟨#[47, 47]⟩ : ByteArray).data.toList = [47, 47] from rfl, end_index, if_pos he]
theorem index_some (R : List UInt8) (k : Nat) (w : World) (hs : R.length ≤ 1000000) (hM : Mx w) (he : endL R = k + 2) :
    Calls Tryd.prog 47 #[.string (B R), .string ⟨#[47, 47]⟩] w fun e w' => e = .returned (.int .i64 k) ∧ w = w' := by
  obtain ⟨m, hm⟩ := hM
  refine (Tryd.strings_Index (B R) _ m w (by rw [size_B]; omega) hm).mono ?_
  rintro e w' ⟨rfl, rfl⟩
  refine ⟨ret_int ?_, rfl⟩
  rw [L_B, show (⟨#[47, 47]⟩ : ByteArray).data.toList = [47, 47] from rfl, end_index, if_neg (by omega)]
  omega

/-- What Split answers: the slice lies in memory. -/
def SplitPost (w : World) (s : List UInt8) (e : Ending) (w' : World) : Prop :=
  ∃ v, e = .returned (.tuple #[v, .string (B (splitP s).2), .int .i64 0]) ∧ SRow w' v (splitP s).1 ∧ Below w.heap.size w w'

theorem Split_err (s : ByteArray) (w : World) (hs : s.size ≤ maxLen) (hE : flashE s.data.toList 4000 ≠ 0) :
    Calls Tryd.prog 23 #[.string s] w fun e w' => e = .returned (.tuple #[.slice none 0 0, .string ⟨#[]⟩, .int .i64 (flashE s.data.toList 4000)]) ∧ w = w' := by
  obtain ⟨q, eq⟩ : ∃ q, flashE s.data.toList 4000 = q := ⟨_, rfl⟩
  rw [eq] at hE ⊢
  have hne : (q != 0) = true := by simpa using hE
  have HQ := Lib.hid eq
  clear hE eq
  go_enter Tryd.func23, Tryd.ntmps23
  go_wp2_with fail
  refine (checkFlashes_any _ _ _ hs).mono ?_
  rintro e w' ⟨rfl, rfl⟩
  rw [HQ.out]
  go_wp2_with fail
  go_ret3
  exact ⟨rfl, rfl⟩

set_option maxRecDepth 100000 in
set_option maxHeartbeats 1000000 in
theorem Split_ok (s : List UInt8) (w : World) (hE : flashE s 4000 = 0) (hM : Mx w) :
    Calls Tryd.prog 23 #[.string (B s)] w (SplitPost w s) := by
  have h4 := flashE_le' hE
  have hs : (B s).size ≤ maxLen := by rw [size_B]; unfold maxLen; omega
  have HE : Hid (flashE (B s).data.toList 4000 = 0) := Lib.hid (by rw [L_B]; exact hE)
  have HM := Lib.hid hM
  have hl4 : s.length ≤ 4000 := by omega
  obtain ⟨i0, hi, hz0, hz1, hz2⟩ := info_parts info_strS
  clear hE hM h4
  go_enter Tryd.func23, Tryd.ntmps23
  go_wp2_with fail
  refine (checkFlashes_any _ _ _ hs).mono ?_
  rintro e w' ⟨rfl, rfl⟩
  rw [HE.out]
  go_wp2_with fail
  go_loopw [6, 7] (fun p r wr => ∃ (P : List (List UInt8)) (R : List UInt8), r = .string (B R) ∧ wr.ownsRow w.heap.size 9 1 p P.length (P.map encS) ∧ P.length + R.length ≤ s.length ∧ Hid (cutSo s P R) ∧ Below w.heap.size w wr) (fun _ r _ => strLen r)
  case atStart => exact ⟨[], s, rfl, World.ownsRow_nil _ _ _ _, by simp, Lib.hid (cutSo_start s), Below.refl _ _⟩
  case round =>
    obtain ⟨P, R, rfl, hrow, hlen, hcut, hB⟩ := hrel
    have HMr := Lib.hid (HM.out.below hB)
    by_cases he : endL R = 0
    · have HP := Lib.hid (cutSo_end hcut.out he)
      have HI := Lib.hid (index_none R wr (by omega) HMr.out he)
      clear he
      go_wp2_with fail
      refine HI.out.mono ?_
      rintro e w' ⟨rfl, rfl⟩
      go_wp2_with fail
      go_ret3
      exact ⟨_, ret_val (by rw [HP.out]; rfl), by rw [HP.out]; exact SRow.of_owned hrow, hB⟩
    · obtain ⟨h2, h3, _, _⟩ := end_spec R he
      obtain ⟨k, hk⟩ : ∃ k, endL R = k + 2 := ⟨endL R - 2, by omega⟩
      have HP := Lib.hid (cutSo_step hcut.out he)
      have HI := Lib.hid (index_some R k wr (by omega) HMr.out hk)
      rw [hk] at HP h3
      have hr1 := fun W => head_run W R (k + 2) h3 ((k : Int) + 2) (by omega)
      have hr2 := fun W => tail_run W R (k + 2) h3 ((k : Int) + 2) (by omega)
      have hdl : (R.drop (k + 2)).length = R.length - (k + 2) := List.length_drop
      clear he h2 hk
      go_wp2_with fail
      refine HI.out.mono ?_
      rintro e w' ⟨rfl, rfl⟩
      go_wp2_with (at_builtin; refine wpList_append_own _ rfl _ _ 36 rfl w.heap.size 9 i0 (.string ⟨#[]⟩) 1 16 Tryd.underlying36 hi hz0 hz1 hz2 rfl (by decide) _ _ _ rfl (hrow.alloc _) ⟨wr.heap.size, 0, none⟩ 1 1 [.string (B (R.take (k + 2)))] rfl rfl (cell_one_newS _ _ _) (by simp [Value.oneCell']) (by unfold maxLen; omega) (by omega) (by have := hB.size; simp; omega) ?_; intro v' w2 hown' hgrow _)
      go_roundw
      case rel => exact ⟨P ++ [R.take (k + 2)], R.drop (k + 2), rfl, by simpa [encS] using hown', by rw [hdl]; simp; omega, HP, (hB.alloc hB.size _).grown hgrow (by have := hB.size; simp; omega) (fun k e => (hrow.lt k e).1)⟩
      case measure => simp [strLen, hdl]; omega
end Go.Proofs.YtgcaldceiogkaaaDoor

/-! The reference's Split. -/
namespace Go.Proofs.YtgcaldceiogkaaaDoor
open Go.RowKit Go.Shelf

theorem sidx_run (s : List UInt8) (k : Nat) (hk : k < s.length) (y : Int) (hy : y = k) (W : World) : (Instr.index 9 (.string (B s)) (.int .i64 y)).run Tryd.prog W = .ok (.int .u8 (s.getD k 0).toNat) W := by
  subst hy
  rw [run_index_string _ _ _ _ _ Tryd.underlying9, dif_pos ⟨by omega, by rw [size_B]; omega⟩]
  have : (B s)[(k : Int).toNat]'(by rw [size_B]; omega) = s.getD k 0 := by rw [bat_eq _ _ (by rw [size_B]; omega), bat_B]; rfl
  rw [this]
theorem u8_47 {b : UInt8} (h : ¬ b = 47) : ((b.toNat : Int) == 47) = false := by
  rw [beq_eq_false_iff_ne]; intro e; exact h (UInt8.toNat_inj.1 (by have h9 : (47 : UInt8).toNat = 47 := rfl; omega))
theorem drop_getD (s : List UInt8) (f j : Nat) : (s.drop f).getD j 0 = s.getD (f + j) 0 := by
  rw [List.getD_eq_getElem?_getD, List.getD_eq_getElem?_getD, List.getElem?_drop]
/-- What the round does to the place of the next end. -/
theorem end_hit {s : List UInt8} {f k : Nat} (h0 : f < k) (hn : endL (s.drop f) = 0 ∨ k - f < endL (s.drop f)) (ha : s.getD (k - 1) 0 = 47) (hb : s.getD k 0 = 47) : endL (s.drop f) = k - f + 1 := by
  refine (end_at (by omega) hn).1 ⟨?_, ?_⟩
  · rw [drop_getD, show f + (k - f - 1) = k - 1 by omega]; exact ha
  · rw [drop_getD, show f + (k - f) = k by omega]; exact hb
theorem end_miss {s : List UInt8} {f k : Nat} (hfk : f ≤ k) (hn : endL (s.drop f) = 0 ∨ k - f < endL (s.drop f)) (h : k = f ∨ ¬ (s.getD (k - 1) 0 = 47 ∧ s.getD k 0 = 47)) : endL (s.drop f) = 0 ∨ k + 1 - f < endL (s.drop f) := by
  rcases Nat.eq_zero_or_pos (endL (s.drop f)) with e | e
  · exact .inl e
  · have h2 := (end_spec (s.drop f) (by omega)).1
    right
    rcases h with rfl | h
    · omega
    · by_cases e0 : f < k
      · have hne : endL (s.drop f) ≠ k - f + 1 := fun e1 => h (by
          have := (end_at (R := s.drop f) (j := k - f) (by omega) hn).2 e1
          rw [drop_getD, drop_getD, show f + (k - f - 1) = k - 1 by omega, show f + (k - f) = k by omega] at this
          exact this)
        omega
      · omega

theorem SRow.setCell {w : World} {base : Nat} {e : TypeId} {v : Value} {l : List (List UInt8)} (h : w.ownsRow base e 1 v l.length (l.map encS)) {a : Addr} (ha : a.block < base) (u : Value) : (w.setCell a u).ownsRow base e 1 v l.length (l.map encS) := ownsRow_setCell_below h ha u

theorem heap_alloc_old' (w : World) (o : Obj) (k : Nat) (h : k < w.heap.size) : (w.alloc o).heap[k]? = w.heap[k]? := Below.heap_alloc w o k h
def cutA (v : Value) (r : List UInt8) (e : Int) : Value := .agg #[v, .string (B r), .int .i64 e]
theorem rSplit_err (s : ByteArray) (w : World) (hs : s.size ≤ maxLen) (hE : flashE s.data.toList 4000 ≠ 0) :
    Calls Tryd.prog 24 #[.string s] w fun e w' => e = .returned (cutA (.slice none 0 0) [] (flashE s.data.toList 4000)) ∧ Below w.heap.size w w' := by
  obtain ⟨q, eq⟩ : ∃ q, flashE s.data.toList 4000 = q := ⟨_, rfl⟩
  rw [eq] at hE ⊢
  have hne : (q != 0) = true := by simpa using hE
  have HQ := Lib.hid eq
  clear hE eq
  go_enter Tryd.func24, Tryd.ntmps24
  go_wp2_with fail
  refine (rflashes_any _ _ _ hs).mono ?_
  rintro e w' ⟨rfl, rfl⟩
  rw [HQ.out]
  go_wp2_with fail
  refine bodyPost_ret (v := cutA (.slice none 0 0) [] q) ?_ rfl ⟨rfl, ?_⟩
  · simp [results, Tryd.results24, go_sem, cutA, B]
  · exact (Below.refl _ w).alloc (Nat.le_refl _) _

/-- What the reference's Split answers: the slice lies in memory. -/
def rSplitPost (w : World) (s : List UInt8) (e : Ending) (w' : World) : Prop :=
  ∃ v, e = .returned (cutA v (splitP s).2 0) ∧ SRow w' v (splitP s).1 ∧ Below w.heap.size w w'

set_option maxRecDepth 100000 in
set_option maxHeartbeats 2000000 in
theorem rSplit_ok (s : List UInt8) (w : World) (hE : flashE s 4000 = 0) :
    Calls Tryd.prog 24 #[.string (B s)] w (rSplitPost w s) := by
  have h4 := flashE_le' hE
  have hs : (B s).size ≤ maxLen := by rw [size_B]; unfold maxLen; omega
  have HE : Hid (flashE (B s).data.toList 4000 = 0) := Lib.hid (by rw [L_B]; exact hE)
  have hl4 : s.length ≤ 4000 := by omega
  obtain ⟨i0, hi, hz0, hz1, hz2⟩ := info_parts info_strS
  clear hE h4
  go_enter Tryd.func24, Tryd.ntmps24
  go_wp2_with fail
  refine (rflashes_any _ _ _ hs).mono ?_
  rintro e w' ⟨rfl, rfl⟩
  rw [HE.out]
  go_wp2_with fail
  go_loopw [5, 6] (fun fr i wr => ∃ (P : List (List UInt8)) (f k : Nat) (v : Value), fr = .int .i64 f ∧ i = .int .i64 k ∧ f ≤ k ∧ k ≤ s.length ∧ P.length ≤ f ∧ Hid (cutSo s P (s.drop f)) ∧ Hid (endL (s.drop f) = 0 ∨ k - f < endL (s.drop f)) ∧
      Hid (wr.heap[w.heap.size]? = some (.cells #[.slice none 0 0, .string ⟨#[]⟩, .int .i64 0] 49 (0, 0))) ∧ Hid (wr.heap[w.heap.size + 1]? = some (.cells #[v, .string ⟨#[]⟩, .int .i64 0] 49 (0, 0))) ∧
      wr.ownsRow (w.heap.size + 2) 9 1 v P.length (P.map encS) ∧ Below w.heap.size w wr ∧ w.heap.size + 2 ≤ wr.heap.size) (fun _ i _ => s.length - (intOf i).toNat)
  case atStart =>
    refine ⟨[], 0, 0, .slice none 0 0, rfl, rfl, by omega, by omega, by simp, Lib.hid (cutSo_start s), Lib.hid ?_, Lib.hid ?_, Lib.hid ?_, World.ownsRow_nil _ _ _ _, ((Below.refl _ w).alloc (Nat.le_refl _) _).alloc (by simp) _, by simp⟩
    · simp only [List.drop_zero]; omega
    · exact (heap_alloc_old' _ _ _ (by simp)).trans (heap_alloc_new w _)
    · have := heap_alloc_new (w.alloc (.cells #[.slice none 0 0, .string ⟨#[]⟩, .int .i64 0] 49)) (.cells #[.slice none 0 0, .string ⟨#[]⟩, .int .i64 0] 49)
      rwa [World.size_alloc] at this
  case round =>
    obtain ⟨P, f, k, v, rfl, rfl, hfk, hk, hPf, hcut, hno, b0, b1, hrow, hB, hsz⟩ := hrel
    have hb0 : w.heap.size < wr.heap.size := by omega
    have hb1 : w.heap.size + 1 < wr.heap.size := by omega
    by_cases hlt : k < s.length
    · have hlti : (k : Int) < s.length := by omega
      have hix := fun W => sidx_run s k hlt (k : Int) rfl W
      by_cases hf : f < k
      · have hfi : (f : Int) < k := by omega
        have hix1 := fun W => sidx_run s (k - 1) (by omega) ((k : Int) - 1) (by omega) W
        obtain ⟨a, ea⟩ : ∃ a, s.getD (k - 1) 0 = a := ⟨_, rfl⟩
        obtain ⟨b, eb⟩ : ∃ b, s.getD k 0 = b := ⟨_, rfl⟩
        rw [ea] at hix1
        rw [eb] at hix
        by_cases hb : b = 47
        · have hq : ((b.toNat : Int) == 47) = true := by rw [hb]; decide
          by_cases ha : a = 47
          · have hq2 : ((a.toNat : Int) == 47) = true := by rw [ha]; decide
            have hh := end_hit hf hno.out (ea.trans ha) (eb.trans hb)
            have hc2 := cutSo_step hcut.out (by omega)
            have hpl : (s.drop f).take (endL (s.drop f)) = cutL s f (k + 1) := by rw [hh]; unfold cutL; rw [show k - f + 1 = k + 1 - f by omega]
            rw [hpl, List.drop_drop, show f + endL (s.drop f) = k + 1 by omega] at hc2
            have HC2 := Lib.hid hc2
            have hsl := fun W => sslice_run W s _ f (k + 1) (by omega) (by omega) (cutL_extract s f (k + 1) (by omega)) (f : Int) ((k : Int) + 1) rfl (by omega)
            obtain ⟨pc, epc⟩ : ∃ pc, cutL s f (k + 1) = pc := ⟨_, rfl⟩
            rw [epc] at HC2 hsl
            have HW := Lib.hid (IntWalk.i64_in ((k : Int) + 1) (by omega))
            have HN : Hid (endL (s.drop (k + 1)) = 0 ∨ k + 1 - (k + 1) < endL (s.drop (k + 1))) := Lib.hid (by omega)
            have c0 := cell_of_heap b1.out 0
            have f0 := free_of_heap b1.out 0
            have hv1 : v.ownBlock ≠ some (w.heap.size + 1) := fun e => by have := (hrow.lt _ e).1; omega
            have hv0 : v.ownBlock ≠ some w.heap.size := fun e => by have := (hrow.lt _ e).1; omega
            have HV1 := Lib.hid hv1
            have HV0 := Lib.hid hv0
            have hc0 : wr.cell? ⟨w.heap.size + 1, 0, none⟩ = some v := c0
            have KC : Hid (∀ o, (wr.alloc o).drew.cell? ⟨w.heap.size + 1, 0, none⟩ = some v) := Lib.hid (fun o => ((((Below.refl wr.heap.size wr).alloc (Nat.le_refl _) o).drew).cell (p := ⟨w.heap.size + 1, 0, none⟩) hb1).trans hc0)
            have KF : Hid (∀ o, (wr.alloc o).drew.frozen? ⟨w.heap.size + 1, 0, none⟩ = false) := Lib.hid (fun o => ((((Below.refl wr.heap.size wr).alloc (Nat.le_refl _) o).drew).frozen (p := ⟨w.heap.size + 1, 0, none⟩) hb1).trans f0)
            clear ea eb hb ha hh hc2 hpl epc hv1 hv0 c0
            go_wp2_with fail
            have hwo := HW.out
            go_region_law
              ((refine step_append_lies _ (by rfl) _ _ _ (by rfl) (w.heap.size + 2) 9 i0 _ 1 16 Tryd.underlying36 hi hz0 hz1 hz2 rfl (by omega) v P.length (P.map encS) (by rfl) ((hrow.alloc _).drew)
                  ⟨wr.heap.size, 0, none⟩ 1 1 [.string (B pc)] (by rfl) (by rfl) (World.news_of_block (cs := #[.string (B pc)]) (t := 9) (fr := (0, 0)) (heap_alloc_new wr _)) (by simp [Value.oneCell'])
                  (by omega) (by unfold maxLen; omega) (by omega) (by simp; omega) (wr.heap.size + 1) (by simp) ?_; intro gg cap w1 hown1 hgrow hat hlt'; have q1 := (hgrow.cell_far ⟨w.heap.size + 1, 0, none⟩ (by simp; omega) (Ne.symm HV1.out)).trans (KC.out _); have q2 := (hgrow.frozen_far ⟨w.heap.size + 1, 0, none⟩ (by simp; omega) (Ne.symm HV1.out)).trans (KF.out _)))
            all_goals
              clear hwo hc0 f0
              have hb2 : Below (w.heap.size + 2) wr w1 := (((Below.refl (w.heap.size + 2) wr).alloc hsz _).drew).grown hgrow (by simp; omega) (fun k e => (hrow.lt k e).1)
              have HB2 := Lib.hid hb2
              clear hb2 q1 q2 hgrow hlt' hat
              go_wp2_with fail
              go_roundw
              case rel =>
                refine ⟨P ++ [pc], k + 1, k + 1, .slice (some ⟨gg, 0, none⟩) (P.length + 1) cap, by go_num, by go_num, Nat.le_refl _, by omega, by simp; omega, HC2, HN, Lib.hid ?_, Lib.hid ?_, ?_, ?_, ?_⟩
                · exact (Below.heap_setCell _ _ _ _ (by simp)).trans ((HB2.out.block _ (by omega)).trans b0.out)
                · exact heap_setCell_same ((HB2.out.block _ (by omega)).trans b1.out) 0 _
                · exact ownsRow_setCell_below (a := ⟨w.heap.size + 1, 0, none⟩) (by simpa [encS] using hown1) (by simp) _
                · exact (hB.trans (HB2.out.mono (by omega))).setCell (p := ⟨w.heap.size + 1, 0, none⟩) (by simp) _
                · have := HB2.out.size; simp; omega
              case measure => simp [intOf]; omega
          · have hq2 := u8_47 ha
            have HN := Lib.hid (end_miss hfk hno.out (.inr (fun h => ha (ea.symm.trans h.1))))
            clear ea eb hb ha
            go_wp2_with fail
            go_roundw
            case rel => exact ⟨P, f, k + 1, v, rfl, by go_num, by omega, by omega, hPf, hcut, HN, b0, b1, hrow, hB, hsz⟩
            case measure => simp [intOf]; omega
        · have hq := u8_47 hb
          have HN := Lib.hid (end_miss hfk hno.out (.inr (fun h => hb (eb.symm.trans h.2))))
          clear ea eb hb
          go_wp2_with fail
          go_roundw
          case rel => exact ⟨P, f, k + 1, v, rfl, by go_num, by omega, by omega, hPf, hcut, HN, b0, b1, hrow, hB, hsz⟩
          case measure => simp [intOf]; omega
      · obtain rfl : f = k := by omega
        have HN := Lib.hid (end_miss hfk hno.out (.inl rfl))
        clear hix
        go_wp2_with fail
        go_roundw
        case rel => exact ⟨P, f, f + 1, v, rfl, by go_num, by omega, by omega, hPf, hcut, HN, b0, b1, hrow, hB, hsz⟩
        case measure => simp [intOf]; omega
    · obtain rfl : k = s.length := by omega
      have he : endL (s.drop f) = 0 := by
        rcases hno.out with h | h
        · exact h
        · apply Classical.byContradiction
          intro hc
          have := (end_spec _ hc).2.1
          rw [List.length_drop] at this
          omega
      have HP := Lib.hid (cutSo_end hcut.out he)
      have htl := fun W => tail_run W s f hfk (f : Int) rfl
      have hc0 : wr.cell? ⟨w.heap.size + 1, 0, none⟩ = some v := cell_of_heap b1.out 0
      have hc1 : wr.cell? ⟨w.heap.size + 1, 1, none⟩ = some (.string ⟨#[]⟩) := cell_of_heap b1.out 1
      have hc2 : wr.cell? ⟨w.heap.size + 1, 2, none⟩ = some (.int .i64 0) := cell_of_heap b1.out 2
      have hd0 : wr.cell? ⟨w.heap.size, 0, none⟩ = some (.slice none 0 0) := cell_of_heap b0.out 0
      have hd1 : wr.cell? ⟨w.heap.size, 1, none⟩ = some (.string ⟨#[]⟩) := cell_of_heap b0.out 1
      have hd2 : wr.cell? ⟨w.heap.size, 2, none⟩ = some (.int .i64 0) := cell_of_heap b0.out 2
      have hf1 : wr.frozen? ⟨w.heap.size + 1, 1, none⟩ = false := free_of_heap b1.out 1
      have g0 := free_of_heap b0.out 0
      have g1 := free_of_heap b0.out 1
      have g2 := free_of_heap b0.out 2
      have HR := Lib.hid hrow
      obtain ⟨a, n, c, rfl⟩ : ∃ a n c, v = .slice a n c := by
        rcases hrow.2 with ⟨rfl, _⟩ | ⟨g, cap, cur, rfl, _⟩ <;> exact ⟨_, _, _, rfl⟩
      clear he hrow
      go_wp2_with fail
      refine bodyPost_ret (v := cutA (.slice a n c) (splitP s).2 0) ?_ rfl ⟨_, rfl, ?_, ?_⟩
      · rw [HP.out]
        simp [results, Tryd.results24, go_sem, cutA, hd0, hd1, hd2]
      · rw [HP.out]
        exact SRow.of_owned (ownsRow_setCell_below (a := ⟨w.heap.size, 2, none⟩) (ownsRow_setCell_below (a := ⟨w.heap.size, 1, none⟩) (ownsRow_setCell_below (a := ⟨w.heap.size, 0, none⟩) (ownsRow_setCell_below (a := ⟨w.heap.size + 1, 1, none⟩) HR.out (by simp) _) (by simp) _) (by simp) _) (by simp) _)
      · exact (((hB.setCell (p := ⟨w.heap.size + 1, 1, none⟩) (by simp) _).setCell (p := ⟨w.heap.size, 0, none⟩) (Nat.le_refl _) _).setCell (p := ⟨w.heap.size, 1, none⟩) (Nat.le_refl _) _).setCell (p := ⟨w.heap.size, 2, none⟩) (Nat.le_refl _) _
end Go.Proofs.YtgcaldceiogkaaaDoor
