/- checkBoth, filled and Fewest of package beam. -/
import Derived.Test.YtjbdmlpadoiicaaGreatDoorE0
set_option linter.unusedVariables false
set_option linter.unusedSimpArgs false
namespace Go.Proofs.YtjbdmlpadoiicaaGreatDoor
open Go.RowKit Go.Shelf

def orI (a b : Int) : Int := if a = 0 then b else a

theorem or_two (w : World) (g : Nat) (a b : Int) (c0 : w.cell? ⟨g, 0, none⟩ = some (.int .i64 a)) (c1 : w.cell? ⟨g, 1, none⟩ = some (.int .i64 b)) :
    Calls Tryz.prog 30 #[.slice (some ⟨g, 0, none⟩) 2 2] w fun e w' => e = .returned (.int .i64 (orI a b)) ∧ w' = w := by
  have HO : Hid (orI a b = if a = 0 then b else a) := Lib.hid rfl
  go_enter Tryz.func30, Tryz.ntmps30
  go_wp2_with fail
  go_loop [8] (fun i => ∃ k : Nat, k ≤ 2 ∧ i = .int .i64 k ∧ (0 < k → a = 0) ∧ (1 < k → b = 0)) (fun i => 2 - (intOf i).toNat)
  case atStart => exact ⟨0, by omega, rfl, by omega, by omega⟩
  case round =>
    obtain ⟨k, hk, rfl, ha, hb⟩ := hrel
    rcases (by omega : k = 0 ∨ k = 1 ∨ k = 2) with rfl | rfl | rfl
    · by_cases hz : a = 0
      · subst hz
        go_wp2_with fail
        go_round
        case rel => exact ⟨1, by omega, rfl, by simp, by omega⟩
        case measure => simp [intOf]
      · have hq : (a != 0) = true := by simpa using hz
        have HO2 := Lib.hid (HO.out.trans (if_neg hz))
        clear hz
        go_wp2_with fail
        go_ret
        exact ⟨ret_val (by rw [HO2.out]; rfl), rfl⟩
    · have HA := Lib.hid (HO.out.trans (if_pos (ha (by omega))))
      have HA0 := Lib.hid (ha (by omega))
      clear ha
      by_cases hz : b = 0
      · subst hz
        go_wp2_with fail
        go_round
        case rel => exact ⟨2, by omega, rfl, fun _ => HA0.out, by simp⟩
        case measure => simp [intOf]
      · have hq : (b != 0) = true := by simpa using hz
        clear hz
        go_wp2_with fail
        go_ret
        exact ⟨ret_val (by rw [HA.out]; rfl), rfl⟩
    · have HA := Lib.hid ((HO.out.trans (if_pos (ha (by omega)))).trans (hb (by omega)))
      clear ha hb
      go_wp2_with fail
      go_ret
      exact ⟨ret_val (by rw [HA.out]; rfl), rfl⟩

def bothE (s r : List UInt8) : Int := orI (flashE s 100) (flashE r 100)

theorem cell_two0 (w : World) (x y : Value) (t : TypeId) : (w.alloc (.cells #[x, y] t)).cell? ⟨w.heap.size, 0, none⟩ = some x := by rw [World.cell?_alloc_new]; rfl
theorem cell_two1 (w : World) (x y : Value) (t : TypeId) : (w.alloc (.cells #[x, y] t)).cell? ⟨w.heap.size, 1, none⟩ = some y := by rw [World.cell?_alloc_new]; rfl

theorem checkBoth_any (s r : ByteArray) (w : World) (hs : s.size ≤ maxLen) (hr : r.size ≤ maxLen) :
    Calls Tryz.prog 64 #[.string s, .string r] w fun e w' => e = .returned (.int .i64 (bothE s.data.toList r.data.toList)) ∧ Below w.heap.size w w' := by
  go_enter Tryz.func64, Tryz.ntmps64
  go_wp2_with fail
  refine (checkFlashes_any _ _ _ hs).mono ?_
  rintro e w' ⟨rfl, rfl⟩
  go_wp2_with fail
  refine (checkFlashes_any _ _ _ hr).mono ?_
  rintro e w' ⟨rfl, rfl⟩
  go_wp2_with fail
  refine (or_two _ _ _ _ (cell_two0 _ _ _ _) (cell_two1 _ _ _ _)).mono ?_
  rintro e w'' ⟨rfl, rfl⟩
  go_wp2_with fail
  go_ret
  exact ⟨ret_val rfl, (Below.refl _ _).alloc (Nat.le_refl _) _⟩

/-- The numbers of a sheet with nothing sent, and with the first flashes sent. -/
def T0 (i j : Nat) : Int := if i = 0 ∧ j = 0 then 0 else 200
def sheetT (s r : List UInt8) (most : Int) : Nat → Nat → Nat → Int
  | 0 => T0
  | k + 1 => nextT (sheetT s r most k) (s.take (k + 1)) r most

theorem Sheet.start {w : World} {Sb : Nat} {r : List UInt8} {most : Int} {C C' : Array Value} (h : w.heap[Sb]? = some (.cells C 130 (0, 0))) (hC : C = C'.setIfInBounds 3 (.int .i16 0)) (hS : Sh0 C' (B r) most 10201) (hr : r.length ≤ 100) :
    Sheet w Sb w.heap.size r most [] T0 := by
  obtain ⟨h0, h1, h2, h3, h4⟩ := hS
  refine ⟨⟨C, _, h, by rw [hC]; simpa using h0, ?_, ?_, by rw [hC, Array.getElem?_setIfInBounds_ne (by omega)]; exact h3, World.ownsRow_nil _ _ _ _, fun i j hi hj => ?_⟩, (Array.getElem?_eq_some_iff.1 h).1, Nat.le_refl _, fun i j hi hj => ?_, by simp, hr⟩
  · rw [hC, Array.getElem?_setIfInBounds_ne (by omega)]; exact h1
  · rw [hC, Array.getElem?_setIfInBounds_ne (by omega)]; exact h2
  · unfold T0
    by_cases c : i = 0 ∧ j = 0
    · obtain ⟨rfl, rfl⟩ := c
      rw [hC, Array.getElem?_setIfInBounds_self_of_lt (by omega), if_pos ⟨rfl, rfl⟩]
    · rw [hC, Array.getElem?_setIfInBounds_ne (by omega), if_neg c, show 3 + i * 101 + j = 3 + (i * 101 + j) by omega, h4 _ (by omega), if_pos (by omega)]
  · unfold T0; split <;> omega

set_option maxRecDepth 100000 in
theorem filled_any (s : ByteArray) (r : List UInt8) (w : World) (hs : s.size ≤ 100) (hr : r.length ≤ 100) (hP : Parts w) :
    Calls Tryz.prog 65 #[.string s, .string (B r)] w fun e w' => e = .returned (.pointer (some ⟨w.heap.size, 0, none⟩)) ∧ Below w.heap.size w w' ∧
      ∃ base, Sheet w' w.heap.size base r s.size s.data.toList (sheetT s.data.toList r s.size s.size) := by
  have hP1 : 3 < w.heap.size := by obtain ⟨fr, h⟩ := hP; exact (Array.getElem?_eq_some_iff.1 h).1
  have hL := size_toList s
  have HL := Lib.hid hL
  go_enter Tryz.func65, Tryz.ntmps65
  go_wp2_with fail
  refine (newSheet_any _ _ _).mono ?_
  rintro e w1 ⟨rfl, hb, C, hh, C', hC, hS⟩
  have hSt := Sheet.start hh hC hS hr
  have hP2 : Parts w1 := (KeepSb.of_below (Sb := w.heap.size) hb).parts hP1 (by omega) hP
  clear hC hS hh
  go_wp2_with fail
  go_loopw [13] (fun i wr => ∃ k : Nat, k ≤ s.size ∧ i = .int .i64 k ∧ Hid (Sheet wr w.heap.size w1.heap.size r s.size (s.data.toList.take k) (sheetT s.data.toList r s.size k)) ∧ KeepSb w1.heap.size w.heap.size w1 wr) (fun i _ => s.size - (intOf i).toNat)
  case atStart => exact ⟨0, Nat.zero_le _, rfl, Lib.hid hSt, KeepSb.refl _ _ _⟩
  case round =>
    obtain ⟨k, hk, rfl, hX, hK⟩ := hrel
    by_cases hlt : k < s.size
    · have hlk : (s.data.toList.take k).length = k := by rw [List.length_take]; omega
      have hT1 : s.data.toList.take (k + 1) = s.data.toList.take k ++ [s[k]] := by
        rw [List.take_add_one, List.getElem?_eq_getElem (by omega)]; simp [ByteArray.getElem_eq_getElem_data]
      have HCl := Lib.hid (send_any wr w.heap.size w1.heap.size r s.size _ _ s[k] hX.out (by omega) (by omega) (hK.parts (Nat.lt_of_lt_of_le hP1 hb.size) (by omega) hP2) (Nat.lt_of_lt_of_le hP1 hb.size) (by omega))
      have HTT := Lib.hid hT1
      have HST : Hid (sheetT s.data.toList r s.size (k + 1) = nextT (sheetT s.data.toList r s.size k) (s.data.toList.take (k + 1)) r s.size) := Lib.hid rfl
      have hki : (k : Int) < s.size := by omega
      clear hlk hT1 hX
      go_wp2_with fail
      refine HCl.out.mono ?_
      rintro e w' ⟨rfl, hX', hK'⟩
      go_wp2_with fail
      go_roundw
      case rel => exact ⟨k + 1, by omega, by go_num, Lib.hid (by rw [HST.out, HTT.out]; exact hX'), hK.trans hK'⟩
      case measure => simp [intOf]; omega
    · obtain rfl : k = s.size := by omega
      have hTe : s.data.toList.take s.size = s.data.toList := by rw [← HL.out, List.take_length]
      have HTe := Lib.hid hTe
      clear hTe
      go_wp2_with fail
      go_ret
      exact ⟨rfl, hb.trans (hK.below hb.size (Nat.le_refl _)), _, by have := hX.out; rwa [HTe.out] at this⟩

/-- What Fewest answers. -/
def fewE (s r : List UInt8) : Value := if bothE s r = 0 then (if sheetT s r s.length s.length s.length r.length ≤ s.length then .tuple #[.int .i64 (sheetT s r s.length s.length s.length r.length), .bool true, .int .i64 0] else .tuple #[.int .i64 0, .bool false, .int .i64 0]) else .tuple #[.int .i64 0, .bool false, .int .i64 (bothE s r)]

theorem bothE_le {s r : List UInt8} (h : bothE s r = 0) : s.length ≤ 100 ∧ r.length ≤ 100 := by
  unfold bothE orI at h
  split at h
  · rename_i c; have h1 := flashE_le' c; have h2 := flashE_le' h; exact ⟨by omega, by omega⟩
  · contradiction

set_option maxRecDepth 100000 in
theorem Fewest_any (s r : ByteArray) (w : World) (hs : s.size ≤ maxLen) (hr : r.size ≤ maxLen) (hP : Parts w) :
    Calls Tryz.prog 26 #[.string s, .string r] w fun e w' => e = .returned (fewE s.data.toList r.data.toList) ∧ Below w.heap.size w w' := by
  obtain ⟨rl, rfl⟩ : ∃ rl, r = B rl := ⟨_, (B_L r).symm⟩
  rw [L_B]
  by_cases hE : bothE s.data.toList rl = 0
  · obtain ⟨h1, h2⟩ := bothE_le hE
    have hL := size_toList s
    have HE : Hid (bothE s.data.toList (B rl).data.toList = 0) := Lib.hid (by rw [L_B]; exact hE)
    have HFV : Hid (fewE s.data.toList rl = if sheetT s.data.toList rl s.size s.size s.size rl.length ≤ (s.size : Int) then .tuple #[.int .i64 (sheetT s.data.toList rl s.size s.size s.size rl.length), .bool true, .int .i64 0] else .tuple #[.int .i64 0, .bool false, .int .i64 0]) := Lib.hid (by
      unfold fewE; rw [if_pos hE, hL])
    have hs1 : s.size ≤ 100 := by omega
    clear hE h1
    go_enter Tryz.func26, Tryz.ntmps26
    go_wp2_with fail
    refine (checkBoth_any _ _ _ hs hr).mono ?_
    rintro e w1 ⟨rfl, hb1⟩
    rw [HE.out]
    have hP1 : Parts w1 := (KeepSb.of_below (base := w.heap.size) (Sb := w.heap.size) hb1).parts (by obtain ⟨fr, h⟩ := hP; exact (Array.getElem?_eq_some_iff.1 h).1) (by obtain ⟨fr, h⟩ := hP; have := (Array.getElem?_eq_some_iff.1 h).1; omega) hP
    have HCl := Lib.hid (filled_any s rl w1 hs1 h2 hP1)
    go_wp2_with fail
    refine HCl.out.mono ?_
    rintro e w2 ⟨rfl, hb2, base, hS2⟩
    go_wp2_with fail
    refine (sfewest_any _ _ _ _ _ _ _ hS2 (by omega)).mono ?_
    rintro e w3 ⟨rfl, hb3⟩
    have hbb : Below w.heap.size w w3 := (hb1.trans (hb2.mono hb1.size)).trans (hb3.mono (Nat.le_trans hb1.size hb2.size))
    have HX := Lib.hid hS2
    clear hS2
    unfold fewV
    by_cases hc : sheetT s.data.toList rl s.size s.size s.data.toList.length rl.length ≤ (s.size : Int)
    · have HF2 := Lib.hid (HFV.out.trans (if_pos (by rwa [hL] at hc)))
      rw [if_pos hc]
      go_wp2_with fail
      go_ret3
      exact ⟨ret_val (by rw [HF2.out]; rfl), hbb⟩
    · rw [if_neg hc]
      have HF2 := Lib.hid (HFV.out.trans (if_neg (by rwa [hL] at hc)))
      go_wp2_with fail
      go_ret3
      exact ⟨ret_val (by rw [HF2.out]; rfl), hbb⟩
  · have hne : (bothE s.data.toList (B rl).data.toList != 0) = true := by rw [L_B]; simpa using hE
    have HF : Hid (fewE s.data.toList rl = .tuple #[.int .i64 0, .bool false, .int .i64 (bothE s.data.toList (B rl).data.toList)]) := Lib.hid (by unfold fewE; rw [if_neg hE, L_B])
    obtain ⟨q, eq⟩ : ∃ q, bothE s.data.toList (B rl).data.toList = q := ⟨_, rfl⟩
    rw [eq] at hne HF
    have HQ := Lib.hid eq
    clear hE eq
    go_enter Tryz.func26, Tryz.ntmps26
    go_wp2_with fail
    refine (checkBoth_any _ _ _ hs hr).mono ?_
    rintro e w1 ⟨rfl, hb1⟩
    rw [HQ.out]
    go_wp2_with fail
    go_ret3
    exact ⟨ret_val (by rw [HF.out]; rfl), hb1⟩
end Go.Proofs.YtjbdmlpadoiicaaGreatDoor

/-! CheckFaults of package beam. -/
namespace Go.Proofs.YtjbdmlpadoiicaaGreatDoor
open Go.RowKit Go.Shelf

theorem FRow.keep {w w' : World} {v : Value} {l : List Flt} (h : FRow w v l) (hb : Below w.heap.size w w') : FRow w' v l := by
  rcases h with h | ⟨b, off, cap, hv, hlt, hc⟩
  · exact .inl h
  · exact .inr ⟨b, off, cap, hv, Nat.lt_of_lt_of_le hlt hb.size, fun i hi => ⟨(hb.cell (p := ⟨b, _, none⟩) hlt).trans (hc i hi).1, (hb.cell (p := ⟨b, _, none⟩) hlt).trans (hc i hi).2⟩⟩
theorem B_inj {a b : List UInt8} : B a = B b ↔ a = b := ⟨fun h => by rw [← L_B a, h, L_B], fun h => by rw [h]⟩
end Go.Proofs.YtjbdmlpadoiicaaGreatDoor
