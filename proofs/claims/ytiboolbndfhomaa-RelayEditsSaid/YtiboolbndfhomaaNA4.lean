/- Check, checkStart, checkWay, canLeave of package relay. -/
import Derived.Test.YtiboolbndfhomaaNA3
set_option linter.unusedVariables false
set_option linter.unusedSimpArgs false
namespace Go.Proofs.Ytiboolbndfhomaa
open Go.RowKit

/-- The stations of a link are stations, and two. -/
def endsB (st : Int) (k : Lk) : Bool := stB st k.fr && stB st k.to && decide (k.fr ≠ k.to)
def netL (st : Int) : List Lk → Int
  | [] => 0
  | k :: l => if endsB st k = true then (if linkE k = 0 then netL st l else linkE k) else 1
/-- The error of a net. -/
def netE (st : Int) (ls : List Lk) : Int := if st < 1 ∨ 10 < st then 1 else if 40 < ls.length then 2 else netL st ls
theorem ldrop_at {l : List Lk} {k : Nat} (hk : k < l.length) : l.drop k = l.getD k .nil :: l.drop (k + 1) := by
  rw [List.getD_eq_getElem?_getD, List.getElem?_eq_getElem hk, List.drop_eq_getElem_cons hk]; rfl
theorem lk_mem {l : List Lk} {k : Nat} (hk : k < l.length) : l.getD k .nil ∈ l := by
  rw [List.getD_eq_getElem?_getD, List.getElem?_eq_getElem hk]; exact List.getElem_mem _
theorem netL_ok {st : Int} : ∀ {l : List Lk}, netL st l = 0 → ∀ k ∈ l, endsB st k = true ∧ linkE k = 0
  | [], _, k, hk => by simp at hk
  | x :: l, h, k, hk => by
    unfold netL at h
    split at h
    · rename_i h1
      split at h
      · rename_i h2
        rcases List.mem_cons.1 hk with rfl | hk
        · exact ⟨h1, h2⟩
        · exact netL_ok h k hk
      · rename_i h2; exact absurd h h2
    · cases h
theorem netE_ok {st : Int} {l : List Lk} (h : netE st l = 0) : 1 ≤ st ∧ st ≤ 10 ∧ l.length ≤ 40 ∧ ∀ k ∈ l, endsB st k = true ∧ linkE k = 0 := by
  unfold netE at h
  split at h
  · cases h
  · split at h
    · cases h
    · exact ⟨by omega, by omega, by omega, netL_ok h⟩
theorem endsB_ok {st : Int} {k : Lk} (h : endsB st k = true) : 0 ≤ k.fr ∧ k.fr < st ∧ 0 ≤ k.to ∧ k.to < st ∧ k.fr ≠ k.to := by
  unfold endsB stB at h
  simp only [Bool.and_eq_true, decide_eq_true_eq] at h
  omega

set_option maxRecDepth 100000 in
set_option maxHeartbeats 2000000 in
theorem Check_any (st : Int) (o : Value) (ls : List Lk) (w : World) (hv : LRow w o ls) (hl : ∀ k ∈ ls, k.op.length ≤ 9223372036854775807) (hll : ls.length ≤ 9223372036854775807) :
    Calls Try.prog 16 #[ntV st o] w fun e w' => e = .returned (.int .i64 (netE st ls)) ∧ Below w.heap.size w w' := by
  obtain ⟨a, cap, rfl, hc⟩ := hv.form
  have HC := Lib.hid hc
  have HL := Lib.hid hl
  have HB0 := Lib.hid ((Below.refl _ w).alloc (Nat.le_refl w.heap.size) (.cells #[.int .i64 st, .slice a ls.length cap] 24))
  clear hc hv hl
  unfold ntV
  by_cases h1 : st < 1
  · have HV : Hid (netE st ls = 1) := Lib.hid (by unfold netE; rw [if_pos (.inl h1)])
    go_enter Try.func16, Try.ntmps16
    go_wp2_with fail
    go_ret
    exact ⟨ret_int' HV.out.symm, HB0.out⟩
  have g1 : decide (st < 1) = false := decide_eq_false h1
  by_cases h2 : 10 < st
  · have HV : Hid (netE st ls = 1) := Lib.hid (by unfold netE; rw [if_pos (.inr h2)])
    go_enter Try.func16, Try.ntmps16
    go_wp2_with fail
    go_ret
    exact ⟨ret_int' HV.out.symm, HB0.out⟩
  have g2 : decide (10 < st) = false := decide_eq_false h2
  by_cases h3 : 40 < ls.length
  · have HV : Hid (netE st ls = 2) := Lib.hid (by unfold netE; rw [if_neg (by omega), if_pos h3])
    have g3 : (40 : Int) < ls.length := by omega
    clear h1 h2
    go_enter Try.func16, Try.ntmps16
    go_wp2_with fail
    go_ret
    exact ⟨ret_int' HV.out.symm, HB0.out⟩
  have g3 : ¬ (40 : Int) < ls.length := by omega
  have HV : Hid (netE st ls = netL st ls) := Lib.hid (by unfold netE; rw [if_neg (by omega), if_neg h3])
  have C0 : Hid (∀ W, Below (w.alloc (.cells #[.int .i64 st, .slice a ls.length cap] 24)).heap.size (w.alloc (.cells #[.int .i64 st, .slice a ls.length cap] 24)) W → W.cell? ⟨w.heap.size, 0, none⟩ = some (.int .i64 st) ∧ W.cell? ⟨w.heap.size, 1, none⟩ = some (.slice a ls.length cap) ∧ w.heap.size < W.heap.size) := Lib.hid (fun W hb => by
    have hlt : w.heap.size < (w.alloc (.cells #[.int .i64 st, .slice a ls.length cap] 24)).heap.size := by simp
    refine ⟨?_, ?_, Nat.lt_of_lt_of_le hlt hb.size⟩
    · rw [World.cell?_of_block (w := w.alloc _) (hb.block w.heap.size hlt), World.cell?_alloc_new]; rfl
    · rw [World.cell?_of_block (w := w.alloc _) (hb.block w.heap.size hlt), World.cell?_alloc_new]; rfl)
  have HI := Lib.hid (fun a' w' => isStation_any st a' (.slice a ls.length cap) w')
  unfold ntV at HI
  clear h1 h2 h3
  go_enter Try.func16, Try.ntmps16
  go_wp2_with fail
  go_loopw [21] (fun i wr => ∃ (k : Nat), k ≤ ls.length ∧ i = .int .i64 k ∧ Hid (netL st ls = netL st (ls.drop k)) ∧ Hid (Below w.heap.size w wr) ∧ Hid (Below (w.alloc (.cells #[.int .i64 st, .slice a ls.length cap] 24)).heap.size (w.alloc (.cells #[.int .i64 st, .slice a ls.length cap] 24)) wr)) (fun i _ => ls.length - (intOf i).toNat)
  case atStart => exact ⟨0, Nat.zero_le _, rfl, Lib.hid rfl, HB0, Lib.hid (Below.refl _ _)⟩
  case round =>
    obtain ⟨k, hk, rfl, hT, hB, hB1⟩ := hrel
    by_cases hkl : k < ls.length
    · obtain ⟨b, off, rfl, hb, c0, c1, c2, ov, c3, hsp⟩ := HC.out k hkl
      have hki : (k : Int) < ls.length := by omega
      have hk0 : (0 : Int) ≤ k := by omega
      have e0 := (hB.out.cell (p := ⟨b, _, none⟩) hb).trans c0
      have e1 := (hB.out.cell (p := ⟨b, _, none⟩) hb).trans c1
      have e2 := (hB.out.cell (p := ⟨b, _, none⟩) hb).trans c2
      have e3 := (hB.out.cell (p := ⟨b, _, none⟩) hb).trans c3
      obtain ⟨s0, s1, hsz⟩ := C0.out wr hB1.out
      have hnz : w.heap.size ≠ wr.heap.size := by omega
      have hD : Hid (netL st (ls.drop k) = if endsB st (ls.getD k .nil) = true then (if linkE (ls.getD k .nil) = 0 then netL st (ls.drop (k + 1)) else linkE (ls.getD k .nil)) else 1) := Lib.hid (by rw [ldrop_at hkl]; rfl)
      have hlo := HL.out _ (lk_mem hkl)
      have hsp1 := hsp.keep hB.out
      obtain ⟨x, hx⟩ : ∃ x, ls.getD k .nil = x := ⟨_, rfl⟩
      rw [hx] at e0 e1 e2 hD hlo hsp1
      have HCK := Lib.hid (fun w' (h : Below wr.heap.size wr w') => checkLink_any x ov w' (hsp1.keep h) hlo)
      obtain ⟨fr, to, dl, op⟩ := x
      obtain ⟨oa, ocap, rfl, _⟩ := hsp1.form
      unfold lkV at HCK
      have HEB : Hid (endsB st ⟨fr, to, dl, op⟩ = (stB st fr && stB st to && decide (fr ≠ to))) := Lib.hid rfl
      simp only at e0 e1 e2 e3 HCK
      have HCK' : Hid (∀ w', Below wr.heap.size wr w' → Calls Try.prog 35 #[.agg #[.int .i64 fr, .int .i64 to, .int .i64 dl, .slice oa op.length ocap]] w' fun e w'' => e = .returned (.int .i64 (linkE ⟨fr, to, dl, op⟩)) ∧ Below w'.heap.size w' w'') := HCK
      have HBn : Hid (∀ o, Below w.heap.size w (wr.alloc o)) := Lib.hid fun o => hB.out.alloc hB.out.size o
      have HBm : Hid (∀ o, Below (w.alloc (.cells #[.int .i64 st, .slice (some ⟨b, off, none⟩) ls.length cap] 24)).heap.size (w.alloc (.cells #[.int .i64 st, .slice (some ⟨b, off, none⟩) ls.length cap] 24)) (wr.alloc o)) := Lib.hid fun o => hB1.out.alloc hB1.out.size o
      have HS1 : Hid (∀ W, Below wr.heap.size wr W → W.cell? ⟨w.heap.size, 0, none⟩ = some (.int .i64 st) ∧ W.cell? ⟨w.heap.size, 1, none⟩ = some (.slice (some ⟨b, off, none⟩) ls.length cap)) := Lib.hid (fun W h => ⟨(h.cell (p := ⟨w.heap.size, 0, none⟩) hsz).trans s0, (h.cell (p := ⟨w.heap.size, 1, none⟩) hsz).trans s1⟩)
      clear c0 c1 c2 c3 hb hx hsp hlo hsp1
      have HA : Hid (∀ W, Below (wr.alloc (.cells #[.int .i64 fr, .int .i64 to, .int .i64 dl, .slice oa op.length ocap] 27)).heap.size (wr.alloc (.cells #[.int .i64 fr, .int .i64 to, .int .i64 dl, .slice oa op.length ocap] 27)) W →
          (W.cell? ⟨w.heap.size, 0, none⟩ = some (.int .i64 st) ∧ W.cell? ⟨w.heap.size, 1, none⟩ = some (.slice (some ⟨b, off, none⟩) ls.length cap)) ∧ (W.cell? ⟨wr.heap.size, 0, none⟩ = some (.int .i64 fr) ∧ W.cell? ⟨wr.heap.size, 1, none⟩ = some (.int .i64 to) ∧ W.cell? ⟨wr.heap.size, 2, none⟩ = some (.int .i64 dl) ∧ W.cell? ⟨wr.heap.size, 3, none⟩ = some (.slice oa op.length ocap)) ∧
          Below w.heap.size w W ∧ Below wr.heap.size wr W) := Lib.hid (fun W h => by
        have hlt : wr.heap.size < (wr.alloc (.cells #[.int .i64 fr, .int .i64 to, .int .i64 dl, .slice oa op.length ocap] 27)).heap.size := by simp
        have hw : Below wr.heap.size wr W := ((Below.refl _ wr).alloc (Nat.le_refl _) _).trans (h.mono (Nat.le_of_lt hlt))
        refine ⟨HS1.out W hw, ⟨?_, ?_, ?_, ?_⟩, hB.out.trans (hw.mono hB.out.size), hw⟩ <;>
          (rw [World.cell?_of_block (w := wr.alloc _) (h.block wr.heap.size hlt), World.cell?_alloc_new]; rfl))
      have HBx : Hid (∀ W, Below wr.heap.size wr W → Below (w.alloc (.cells #[.int .i64 st, .slice (some ⟨b, off, none⟩) ls.length cap] 24)).heap.size (w.alloc (.cells #[.int .i64 st, .slice (some ⟨b, off, none⟩) ls.length cap] 24)) W) := Lib.hid (fun W h => hB1.out.trans (h.mono hB1.out.size))
      cases h1 : stB st fr
      · have HI1 := Lib.hid (fun w' => by have := HI.out fr w'; rw [h1] at this; exact this)
        have HN : Hid (netE st ls = 1) := Lib.hid (by rw [HV.out, hT.out, hD.out, HEB.out, h1]; rfl)
        clear hD h1 HI
        go_wp2_with fail
        refine (HI1.out _).mono ?_
        rintro e w4 ⟨rfl, hb4⟩
        have H4 := Lib.hid (HA.out w4 hb4).2.2.1
        clear hb4
        go_wp2_with fail
        go_ret
        exact ⟨ret_int' HN.out.symm, H4.out⟩
      have HI1 := Lib.hid (fun w' => by have := HI.out fr w'; rw [h1] at this; exact this)
      cases h2 : stB st to
      · have HI2 := Lib.hid (fun w' => by have := HI.out to w'; rw [h2] at this; exact this)
        have HN : Hid (netE st ls = 1) := Lib.hid (by rw [HV.out, hT.out, hD.out, HEB.out, h1, h2]; rfl)
        clear hD h1 h2 HI
        go_wp2_with fail
        refine (HI1.out _).mono ?_
        rintro e w4 ⟨rfl, hb4⟩
        obtain ⟨⟨n0, n1⟩, ⟨l0, l1, l2, l3⟩, _⟩ := HA.out w4 hb4
        have HB4 := Lib.hid hb4
        clear hb4
        go_wp2_with fail
        refine (HI2.out _).mono ?_
        rintro e w5 ⟨rfl, hb5⟩
        have HB5 := Lib.hid (HB4.out.trans (hb5.mono HB4.out.size))
        have H5 := Lib.hid (HA.out w5 HB5.out).2.2.1
        clear hb5 n0 n1 l0 l1 l2 l3
        go_wp2_with fail
        go_ret
        exact ⟨ret_int' HN.out.symm, H5.out⟩
      have HI2 := Lib.hid (fun w' => by have := HI.out to w'; rw [h2] at this; exact this)
      by_cases h3 : fr = to
      · have HN : Hid (netE st ls = 1) := Lib.hid (by rw [HV.out, hT.out, hD.out, HEB.out, h1, h2, decide_eq_false (p := fr ≠ to) (fun h => h h3)]; rfl)
        have hq : (fr == to) = true := by simpa using h3
        clear hD h1 h2 HI h3
        go_wp2_with fail
        refine (HI1.out _).mono ?_
        rintro e w4 ⟨rfl, hb4⟩
        obtain ⟨⟨n0, n1⟩, ⟨l0, l1, l2, l3⟩, _⟩ := HA.out w4 hb4
        have HB4 := Lib.hid hb4
        clear hb4
        go_wp2_with fail
        refine (HI2.out _).mono ?_
        rintro e w5 ⟨rfl, hb5⟩
        have HB5 := Lib.hid (HB4.out.trans (hb5.mono HB4.out.size))
        clear hb5 n0 n1 l0 l1 l2 l3
        obtain ⟨_, ⟨l0, l1, l2, l3⟩, hw5, _⟩ := HA.out w5 HB5.out
        have H5 := Lib.hid hw5
        clear hw5
        go_wp2_with fail
        go_ret
        exact ⟨ret_int' HN.out.symm, H5.out⟩
      have hq : (fr == to) = false := by simpa using h3
      have HD2 : Hid (netL st ls = if linkE ⟨fr, to, dl, op⟩ = 0 then netL st (ls.drop (k + 1)) else linkE ⟨fr, to, dl, op⟩) := Lib.hid (by rw [hT.out, hD.out, HEB.out, h1, h2, decide_eq_true (p := fr ≠ to) h3]; rfl)
      clear hD h1 h2 HI h3
      by_cases h4 : linkE ⟨fr, to, dl, op⟩ = 0
      · have HN : Hid (netL st ls = netL st (ls.drop (k + 1))) := Lib.hid (by rw [HD2.out, if_pos h4])
        rw [h4] at HCK'
        clear h4 HD2
        go_wp2_with fail
        refine (HI1.out _).mono ?_
        rintro e w4 ⟨rfl, hb4⟩
        obtain ⟨⟨n0, n1⟩, ⟨l0, l1, l2, l3⟩, _⟩ := HA.out w4 hb4
        have HB4 := Lib.hid hb4
        clear hb4
        go_wp2_with fail
        refine (HI2.out _).mono ?_
        rintro e w5 ⟨rfl, hb5⟩
        have HB5 := Lib.hid (HB4.out.trans (hb5.mono HB4.out.size))
        clear hb5 n0 n1 l0 l1 l2 l3
        obtain ⟨_, ⟨l0, l1, l2, l3⟩, _, hw5⟩ := HA.out w5 HB5.out
        have H5 := Lib.hid hw5
        clear hw5
        go_wp2_with fail
        refine (HCK'.out _ H5.out).mono ?_
        rintro e w6 ⟨rfl, hb6⟩
        have H6 := Lib.hid (H5.out.trans (hb6.mono H5.out.size))
        clear hb6 l0 l1 l2 l3
        go_wp2_with fail
        go_roundw
        case rel => exact ⟨k + 1, by omega, by go_num, HN, Lib.hid (hB.out.trans (H6.out.mono hB.out.size)), Lib.hid (HBx.out _ H6.out)⟩
        case measure => simp [intOf]; omega
      · have HN : Hid (netE st ls = linkE ⟨fr, to, dl, op⟩) := Lib.hid (by rw [HV.out, HD2.out, if_neg h4])
        have hz : (linkE ⟨fr, to, dl, op⟩ != 0) = true := by simpa using h4
        obtain ⟨q, hqq⟩ : ∃ q, linkE ⟨fr, to, dl, op⟩ = q := ⟨_, rfl⟩
        rw [hqq] at HCK' HN hz
        clear h4 HD2 hqq
        go_wp2_with fail
        refine (HI1.out _).mono ?_
        rintro e w4 ⟨rfl, hb4⟩
        obtain ⟨⟨n0, n1⟩, ⟨l0, l1, l2, l3⟩, _⟩ := HA.out w4 hb4
        have HB4 := Lib.hid hb4
        clear hb4
        go_wp2_with fail
        refine (HI2.out _).mono ?_
        rintro e w5 ⟨rfl, hb5⟩
        have HB5 := Lib.hid (HB4.out.trans (hb5.mono HB4.out.size))
        clear hb5 n0 n1 l0 l1 l2 l3
        obtain ⟨_, ⟨l0, l1, l2, l3⟩, _, hw5⟩ := HA.out w5 HB5.out
        have H5 := Lib.hid hw5
        clear hw5
        go_wp2_with fail
        refine (HCK'.out _ H5.out).mono ?_
        rintro e w6 ⟨rfl, hb6⟩
        have H6 := Lib.hid (H5.out.trans (hb6.mono H5.out.size))
        clear hb6 l0 l1 l2 l3
        go_wp2_with fail
        go_ret
        exact ⟨ret_int' HN.out.symm, hB.out.trans (H6.out.mono hB.out.size)⟩
    · obtain rfl : k = ls.length := by omega
      have HN : Hid (netE st ls = 0) := Lib.hid (by rw [HV.out, hT.out, List.drop_length]; rfl)
      go_wp2_with fail
      go_ret
      exact ⟨ret_int' HN.out.symm, hB.out⟩
end Go.Proofs.Ytiboolbndfhomaa
