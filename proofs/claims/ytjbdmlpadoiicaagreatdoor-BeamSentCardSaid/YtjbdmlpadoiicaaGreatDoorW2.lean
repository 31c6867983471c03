/- The reference's merged: a row of strings in order. -/
import Derived.Test.YtjbdmlpadoiicaaGreatDoorW0
import Derived.Test.YtjbdmlpadoiicaaGreatDoorU4
import Derived.Test.YtjbdmlpadoiicaaGreatDoorC2
import Derived.WalkLawsBesides
import Derived.Handy
set_option linter.unusedVariables false
set_option linter.unusedSimpArgs false
namespace Go.Proofs.YtjbdmlpadoiicaaGreatDoor
open Go.RowKit Go.Shelf

/-- A slice of strings that is not nil reads as a list. -/
def TRow (w : World) (v : Value) (l : List (List UInt8)) : Prop :=
  ∃ b off cap, v = .slice (some ⟨b, off, none⟩) l.length cap ∧ l.length ≤ cap ∧ b < w.heap.size ∧ ∀ i, i < l.length → w.cell? ⟨b, off + i, none⟩ = some (.string (B (l.getD i [])))
theorem TRow.of_owned {w : World} {base g cap : Nat} {l : List (List UInt8)} (h : w.ownsRow base 9 1 (.slice (some ⟨g, 0, none⟩) l.length cap) l.length (l.map encStr)) : TRow w (.slice (some ⟨g, 0, none⟩) l.length cap) l := by
  obtain ⟨h1, h2, h3⟩ := res_rows h
  exact ⟨g, 0, cap, rfl, h2, h1, fun i hi => by rw [Nat.zero_add]; exact h3 i hi⟩
theorem TRow.srow {w : World} {v : Value} {l : List (List UInt8)} (h : TRow w v l) : SRow w v l := by
  obtain ⟨b, off, cap, h1, h2, h3, h4⟩ := h
  exact .inr ⟨b, off, cap, h1, h3, h4⟩
abbrev leS (x y : List UInt8) : Bool := decide (x ≤ y)
theorem merge_take {x y : List UInt8} {a b : List (List UInt8)} (h : x ≤ y) : List.merge (x :: a) (y :: b) leS = x :: List.merge a (y :: b) leS := by
  rw [List.cons_merge_cons, if_pos (decide_eq_true h)]
theorem merge_drop {x y : List UInt8} {a b : List (List UInt8)} (h : ¬ x ≤ y) : List.merge (x :: a) (y :: b) leS = y :: List.merge (x :: a) b leS := by
  rw [List.cons_merge_cons, if_neg (by simpa using h)]
theorem merge_sorted {a b : List (List UInt8)} (ha : a.Pairwise (· ≤ ·)) (hb : b.Pairwise (· ≤ ·)) : (List.merge a b leS).Pairwise (· ≤ ·) := by
  have := List.pairwise_merge (le := leS) (fun a b c h k => by simp [leS] at h k ⊢; exact List.le_trans h k) (fun a b => by simp [leS]; exact List.le_total a b) a b (ha.imp (by simp [leS])) (hb.imp (by simp [leS]))
  exact this.imp (by simp [leS])
theorem sliceFrom_run (W : World) (g k n c h : Nat) (hh : h < n) (hc : n ≤ c) : (Instr.slice 41 (.slice (some ⟨g, k, none⟩) n c) (some (.int .i64 (h : Int))) none none).run Tryz.prog W = .ok (.slice (some ⟨g, k + h, none⟩) (n - h) (c - h)) W := by
  have h1 : (0 : Int) ≤ h ∧ (h : Int) ≤ (n : Int) := by omega
  have h2 : ¬ c = h := by omega
  simp [Instr.slice, Instr.sliceBounds, Instr.sliceBound, asIntOf, run_underlying Tryz.underlying41, h1, h2, go_sem]
  omega
theorem sliceTo_run (W : World) (g k n c h : Nat) (hh : h ≤ n) (hc : n ≤ c) : (Instr.slice 41 (.slice (some ⟨g, k, none⟩) n c) none (some (.int .i64 (h : Int))) none).run Tryz.prog W = .ok (.slice (some ⟨g, k, none⟩) h c) W := by
  have h1 : (0 : Int) ≤ h ∧ (h : Int) ≤ (c : Int) := by omega
  simp [Instr.slice, Instr.sliceBounds, Instr.sliceBound, asIntOf, run_underlying Tryz.underlying41, h1, go_sem]
  omega
theorem getD_drop0 {a A : List (List UInt8)} {x : List UInt8} {i : Nat} (h : a.drop i = x :: A) : i < a.length ∧ a.getD i [] = x ∧ a.drop (i + 1) = A := by
  refine ⟨?_, ?_, by rw [← List.tail_drop, h]; rfl⟩
  · have := congrArg List.length h; rw [List.length_drop] at this; simp at this; omega
  · have h0 : (a.drop i).getD 0 [] = x := by rw [h]; rfl
    rw [List.getD_eq_getElem?_getD, List.getElem?_drop, Nat.add_zero, ← List.getD_eq_getElem?_getD] at h0; exact h0
theorem rest_cells {w : World} {ra oa i i' : Nat} {a A : List (List UInt8)} (hd : a.drop i = A) (hi : A ≠ [] → i' = oa + i) (hc : ∀ k, k < a.length → w.cell? ⟨ra, oa + k, none⟩ = some (.string (B (a.getD k [])))) :
    ∀ ad, some (⟨ra, i', none⟩ : Addr) = some ad → ∀ t u, (A.map encStr)[t]? = some u → w.cell? (ad.add t) = some u := by
  intro ad had t u hu
  cases had
  have ht : t < A.length := by have := (List.getElem?_eq_some_iff.1 hu).1; simpa using this
  have e := hi (by rintro rfl; simp at ht)
  subst e
  have hl : i + t < a.length := by have := congrArg List.length hd; rw [List.length_drop] at this; omega
  rw [Addr.add_lit, Nat.add_assoc, hc _ hl]
  rw [List.getElem?_map, List.getElem?_eq_getElem ht] at hu
  simp only [Option.map_some, Option.some.injEq] at hu
  rw [← hu]
  subst hd
  rw [List.getElem_drop, List.getD_eq_getElem?_getD, List.getElem?_eq_getElem hl]; rfl
end Go.Proofs.YtjbdmlpadoiicaaGreatDoor

/-! The reference's merged: the walk. -/
namespace Go.Proofs.YtjbdmlpadoiicaaGreatDoor
open Go.RowKit Go.Shelf

set_option maxRecDepth 100000 in
set_option maxHeartbeats 2000000 in
theorem merged_any : ∀ (m : Nat) (l : List (List UInt8)) (v : Value) (w : World), l.length ≤ m → l ≠ [] → l.length ≤ 1000000 → TRow w v l →
    Calls Tryz.prog 80 #[v] w fun e w' => ∃ v' ys, e = .returned v' ∧ TRow w' v' ys ∧ ys.Pairwise (· ≤ ·) ∧ ys.Perm l ∧ Below w.heap.size w w' := by
  intro m
  induction m with
  | zero =>
    intro l v w h h1
    exact absurd (List.eq_nil_of_length_eq_zero (by omega)) h1
  | succ m ih =>
    intro l v w hm hne hl hT
    have hpos := List.length_pos_iff.2 hne
    obtain ⟨b, off, cap, rfl, hcap, hb, hc⟩ := hT
    by_cases h2 : l.length < 2
    · have h2' : (l.length : Int) < 2 := by omega
      have HT : Hid (TRow w (.slice (some ⟨b, off, none⟩) l.length cap) l) := Lib.hid ⟨b, off, cap, rfl, hcap, hb, hc⟩
      have HP : Hid (l.Pairwise (· ≤ ·)) := Lib.hid (by
        cases l with
        | nil => exact List.Pairwise.nil
        | cons x l => cases l with
          | nil => simp
          | cons y l => simp at h2; omega)
      clear ih hm hc hb h2
      go_enter Tryz.func80, Tryz.ntmps80
      go_wp2_with fail
      go_ret
      exact ⟨_, l, rfl, HT.out, HP.out, .refl _, Below.refl _ _⟩
    · obtain ⟨i0, hi, hz0, hz1, hz2⟩ := info_parts info_str
      have h2' : ¬ (l.length : Int) < 2 := by omega
      obtain ⟨h, hh⟩ : ∃ h, l.length / 2 = h := ⟨_, rfl⟩
      have hd : (l.length : Int).tdiv 2 = (h : Int) := by rw [Int.tdiv_eq_ediv_of_nonneg (by omega)]; omega
      have hh1 : 1 ≤ h := by omega
      have hh2 : h < l.length := by omega
      have t1 : ∀ W, (Instr.slice 41 (.slice (some ⟨b, off, none⟩) l.length cap) none (some (.int .i64 (h : Int))) none).run Tryz.prog W = .ok (.slice (some ⟨b, off, none⟩) h cap) W := fun W => sliceTo_run W b off l.length cap h (by omega) hcap
      have t2 : ∀ W, (Instr.slice 41 (.slice (some ⟨b, off, none⟩) l.length cap) (some (.int .i64 (h : Int))) none none).run Tryz.prog W = .ok (.slice (some ⟨b, off + h, none⟩) (l.length - h) (cap - h)) W := fun W => sliceFrom_run W b off l.length cap h hh2 hcap
      have T1 : Hid (TRow w (.slice (some ⟨b, off, none⟩) h cap) (l.take h)) := Lib.hid ⟨b, off, cap, by rw [List.length_take]; congr 1; omega, by rw [List.length_take]; omega, hb, fun i hi => by
        rw [List.length_take] at hi
        rw [hc i (by omega), List.getD_eq_getElem?_getD, List.getD_eq_getElem?_getD, List.getElem?_take_of_lt (by omega)]⟩
      have T2 : Hid (∀ w1, Below w.heap.size w w1 → TRow w1 (.slice (some ⟨b, off + h, none⟩) (l.length - h) (cap - h)) (l.drop h)) := Lib.hid fun w1 hb1 => ⟨b, off + h, cap - h, by rw [List.length_drop], by rw [List.length_drop]; omega, Nat.lt_of_lt_of_le hb hb1.size, fun i hi => by
        rw [List.length_drop] at hi
        rw [show off + h + i = off + (h + i) by omega]
        refine (hb1.cell (p := ⟨b, _, none⟩) hb).trans ?_
        rw [hc (h + i) (by omega), List.getD_eq_getElem?_getD, List.getD_eq_getElem?_getD, List.getElem?_drop]⟩
      have H1 : Hid (∀ (v : Value) (w : World), TRow w v (l.take h) → _) := Lib.hid (fun v w hT => ih (l.take h) v w (by rw [List.length_take]; omega) (by intro e; have := congrArg List.length e; simp only [List.length_take, List.length_nil] at this; omega) (by rw [List.length_take]; omega) hT)
      have H2 : Hid (∀ (v : Value) (w : World), TRow w v (l.drop h) → _) := Lib.hid (fun v w hT => ih (l.drop h) v w (by rw [List.length_drop]; omega) (by intro e; have := congrArg List.length e; simp only [List.length_drop, List.length_nil] at this; omega) (by rw [List.length_drop]; omega) hT)
      have HPL : Hid ((l.take h ++ l.drop h) = l) := Lib.hid (List.take_append_drop h l)
      have HLT : Hid ((l.take h).length = h ∧ (l.drop h).length = l.length - h) := Lib.hid ⟨by rw [List.length_take]; omega, List.length_drop⟩
      clear ih hm hc hne h2
      go_enter Tryz.func80, Tryz.ntmps80
      go_wp2_with fail
      refine (H1.out _ w T1.out).mono ?_
      rintro e w1 ⟨va, a, rfl, hTa, hsa, hpa, hb1⟩
      have HTA := Lib.hid hTa; have HSA := Lib.hid hsa; have HPA := Lib.hid hpa; have HB1 := Lib.hid hb1
      clear hTa hsa hpa hb1 H1
      go_wp2_with fail
      refine (H2.out _ w1 (T2.out w1 HB1.out)).mono ?_
      rintro e w2 ⟨vb, c, rfl, hTb, hsb, hpb, hb2⟩
      have hla : a.length = h := by rw [HPA.out.length_eq, HLT.out.1]
      have hlc : c.length = l.length - h := by rw [hpb.length_eq, HLT.out.2]
      have hTa2 : TRow w2 va a := by
        obtain ⟨ra, oa, ca, h1, h2, h3, h4⟩ := HTA.out
        exact ⟨ra, oa, ca, h1, h2, Nat.lt_of_lt_of_le h3 hb2.size, fun i hi => (hb2.cell (p := ⟨ra, _, none⟩) h3).trans (h4 i hi)⟩
      obtain ⟨ra, oa, ca, rfl, hca, hra, ka⟩ := hTa2
      obtain ⟨rb, ob, cb, rfl, hcb, hrb, kb⟩ := hTb
      have HM : Hid ((List.merge a c leS).Pairwise (· ≤ ·) ∧ (List.merge a c leS).Perm l) := Lib.hid ⟨merge_sorted HSA.out hsb, (List.merge_perm_append leS).trans ((HPA.out.append hpb).trans (by rw [HPL.out]))⟩
      have HB2 := Lib.hid (HB1.out.trans (hb2.mono HB1.out.size))
      have HLC := Lib.hid hlc
      have HLA := Lib.hid hla
      have hsum : a.length + c.length = l.length := by omega
      clear hsb hpb hb2 HTA HSA HPA HB1 H2 T1 T2 HPL HLT hla hlc hd hh
      have hby : i0.bytes * l.length ≤ 281474976710656 := by rw [hz2]; omega
      have hml : l.length ≤ maxLen := by unfold maxLen; omega
      go_wp2_with (at_make; refine wpList_make_own _ rfl _ _ 41 rfl w2.heap.size 9 i0 (.string ⟨#[]⟩) 1 Tryz.underlying41 hi hz0 hz1 .i64 .i64 _ l.length rfl rfl rfl hby hml (Nat.le_refl _) ?_; intro w3 hown3 hgrow3)
      have HB3 := Lib.hid ((Below.refl w2.heap.size w2).grown hgrow3 (Nat.le_refl _) (fun k e => by cases e))
      have HKA := Lib.hid ka; have HKB := Lib.hid kb
      have HO3 := Lib.hid hown3
      clear hgrow3 hown3 ka kb t1 t2
      go_loopw [3, 4, 5] (fun u v t wr => ∃ (i j i' j' cA cB : Nat) (acc A C : List (List UInt8)), u = .slice (some ⟨ra, i', none⟩) A.length cA ∧ v = .slice (some ⟨rb, j', none⟩) C.length cB ∧ t = .slice (some ⟨w2.heap.size, 0, none⟩) acc.length l.length ∧
        A.length ≤ cA ∧ C.length ≤ cB ∧ acc.length + A.length + C.length = l.length ∧ Hid ((A ≠ [] → i' = oa + i) ∧ a.drop i = A) ∧ Hid ((C ≠ [] → j' = ob + j) ∧ c.drop j = C) ∧ Hid (acc ++ List.merge A C leS = List.merge a c leS) ∧
        Hid (wr.ownsRow w2.heap.size 9 1 (.slice (some ⟨w2.heap.size, 0, none⟩) acc.length l.length) acc.length (acc.map encStr)) ∧ Hid (Below w2.heap.size w2 wr)) (fun u v _ _ => sliceLen u + sliceLen v)
      case atStart => exact ⟨0, 0, oa, ob, ca, cb, [], a, c, rfl, rfl, rfl, hca, hcb, by simpa using hsum, Lib.hid ⟨fun _ => rfl, rfl⟩, Lib.hid ⟨fun _ => rfl, rfl⟩, Lib.hid rfl, HO3, HB3⟩
      case round =>
        obtain ⟨i, j, i', j', cA, cB, acc, A, C, rfl, rfl, rfl, hcA, hcB, hAC, hA, hC, hM, hO, hBw⟩ := hrel
        have wka : Hid (∀ k, k < a.length → wr.cell? ⟨ra, oa + k, none⟩ = some (.string (B (a.getD k [])))) := Lib.hid fun k hk => (hBw.out.cell (p := ⟨ra, _, none⟩) hra).trans (HKA.out k hk)
        have wkb : Hid (∀ k, k < c.length → wr.cell? ⟨rb, ob + k, none⟩ = some (.string (B (c.getD k [])))) := Lib.hid fun k hk => (hBw.out.cell (p := ⟨rb, _, none⟩) hrb).trans (HKB.out k hk)
        have hgl : w2.heap.size < wr.heap.size := by
          rcases hO.out.2 with ⟨h0, _⟩ | ⟨g, cap', cur, hv, _, hb, _⟩
          · cases h0
          · cases hv; exact (Array.getElem?_eq_some_iff.1 hb).1
        by_cases hex : A = [] ∨ C = []
        · have HT : Hid (acc ++ A ++ C = List.merge a c leS) := Lib.hid (by
            rw [← hM.out]
            rcases hex with rfl | rfl
            · simp
            · simp)
          have hcond : A.length = 0 ∨ (0 < A.length ∧ C.length = 0) := by
            rcases hex with rfl | rfl
            · left; simp
            · by_cases h : A.length = 0
              · exact .inl h
              · exact .inr ⟨by omega, rfl⟩
          have HCA := Lib.hid (rest_cells hA.out.2 hA.out.1 wka.out)
          clear hA hM hex wka
          obtain ⟨p, hp⟩ : ∃ p, A.length = p := ⟨_, rfl⟩
          obtain ⟨q, hq⟩ : ∃ q, C.length = q := ⟨_, rfl⟩
          have HP := Lib.hid hp
          have HQ := Lib.hid hq
          rw [hp] at hcA hAC hcond ⊢
          rw [hq] at hcB hAC hcond ⊢
          have hk1 : acc.length + p ≤ l.length := by omega
          have hk2 : acc.length + p + q ≤ l.length := by omega
          have HF : Hid (∀ w5 : World, w5.ownsRow w2.heap.size 9 1 (.slice (some ⟨w2.heap.size, 0, none⟩) (acc.length + p + q) l.length) (acc.length + p + q) (acc.map encStr ++ A.map encStr ++ C.map encStr) → Below w2.heap.size wr w5 →
              ∃ v' ys, Ending.returned (.slice (some ⟨w2.heap.size, 0, none⟩) (acc.length + p + q) l.length) = Ending.returned v' ∧ TRow w5 v' ys ∧ ys.Pairwise (· ≤ ·) ∧ ys.Perm l ∧ Below w.heap.size w w5) := Lib.hid (by
            intro w5 h5 hb5
            refine ⟨_, acc ++ A ++ C, rfl, ?_, by rw [HT.out]; exact HM.out.1, by rw [HT.out]; exact HM.out.2, (HB2.out.trans (hBw.out.mono HB2.out.size)).trans (hb5.mono HB2.out.size)⟩
            have e : acc.length + p + q = (acc ++ A ++ C).length := by simp only [List.length_append]; omega
            rw [e] at h5 ⊢
            rw [← List.map_append, ← List.map_append] at h5
            exact TRow.of_owned h5)
          have HL1 : Hid ((A.map encStr).length = p * 1) := Lib.hid (by simp [hp])
          have HL2 : Hid ((C.map encStr).length = q * 1) := Lib.hid (by simp [hq])
          clear hp hq hAC
          have HCC : Hid (∀ w4 : World, wr.grownBy w4 (some w2.heap.size) → ∀ ad, some (⟨rb, j', none⟩ : Addr) = some ad → ∀ t u, (C.map encStr)[t]? = some u → w4.cell? (ad.add t) = some u) := Lib.hid fun w4 hg => rest_cells hC.out.2 hC.out.1 (fun k hk => (World.cell?_of_block (w := wr) (a := ⟨rb, _, none⟩) (hg.block rb (by omega) (by simp; omega))).trans (wkb.out k hk))
          rcases hcond with rfl | ⟨hp0, rfl⟩
          · go_wp2_with (first
              | (at_builtin; refine wpList_append_fits_any _ rfl _ _ 41 rfl w2.heap.size 9 i0 1 Tryz.underlying41 hi hz1 w2.heap.size (acc.length + 0) l.length (acc.map encStr ++ A.map encStr) rfl hown4 _ q cB (C.map encStr) rfl HL2.out (fun h => by cases h) (HCC.out w4 hgrow4) (by simp [encStr, Value.oneCell']) hk2 ?_; intro w5 hown5 hgrow5)
              | (at_builtin; refine wpList_append_fits_any _ rfl _ _ 41 rfl w2.heap.size 9 i0 1 Tryz.underlying41 hi hz1 w2.heap.size acc.length l.length (acc.map encStr) rfl hO.out _ 0 cA (A.map encStr) rfl HL1.out (fun h => by cases h) HCA.out (by simp [encStr, Value.oneCell']) hk1 ?_; intro w4 hown4 hgrow4)
              | fail)
            go_ret
            exact HF.out w5 hown5 (((Below.refl _ _).grown hgrow4 (by omega) (fun k e => by cases e; omega)).grown hgrow5 (by have := hgrow4.size; omega) (fun k e => by cases e; omega))
          · have hpi : (0 : Int) < p := by omega
            go_wp2_with (first
              | (at_builtin; refine wpList_append_fits_any _ rfl _ _ 41 rfl w2.heap.size 9 i0 1 Tryz.underlying41 hi hz1 w2.heap.size (acc.length + p) l.length (acc.map encStr ++ A.map encStr) rfl hown4 _ 0 cB (C.map encStr) rfl HL2.out (fun h => by cases h) (HCC.out w4 hgrow4) (by simp [encStr, Value.oneCell']) hk2 ?_; intro w5 hown5 hgrow5)
              | (at_builtin; refine wpList_append_fits_any _ rfl _ _ 41 rfl w2.heap.size 9 i0 1 Tryz.underlying41 hi hz1 w2.heap.size acc.length l.length (acc.map encStr) rfl hO.out _ p cA (A.map encStr) rfl HL1.out (fun h => by cases h) HCA.out (by simp [encStr, Value.oneCell']) hk1 ?_; intro w4 hown4 hgrow4)
              | fail)
            go_ret
            exact HF.out w5 hown5 (((Below.refl _ _).grown hgrow4 (by omega) (fun k e => by cases e; omega)).grown hgrow5 (by have := hgrow4.size; omega) (fun k e => by cases e; omega))
        · cases A with
          | nil => exact absurd (.inl rfl) hex
          | cons x A =>
            cases C with
            | nil => exact absurd (.inr rfl) hex
            | cons y C =>
              clear hex
              obtain ⟨gi, hx, da⟩ := getD_drop0 hA.out.2
              obtain ⟨gj, hy, dc⟩ := getD_drop0 hC.out.2
              obtain rfl : i' = oa + i := hA.out.1 (by simp)
              obtain rfl : j' = ob + j := hC.out.1 (by simp)
              have ca0 : wr.cell? ⟨ra, oa + i, none⟩ = some (.string (B x)) := by rw [← hx]; exact wka.out i gi
              have cb0 : wr.cell? ⟨rb, ob + j, none⟩ = some (.string (B y)) := by rw [← hy]; exact wkb.out j gj
              simp only [List.length_cons] at hcA hcB hAC ⊢
              have hpa : (0 : Int) < (A.length : Int) + 1 := by omega
              have hpb : (0 : Int) < (C.length : Int) + 1 := by omega
              have hs1 := fun W => slice1_run W ra (oa + i) A.length cA hcA
              have hs2 := fun W => slice1_run W rb (ob + j) C.length cB hcB
              have hfit : acc.length + 1 ≤ l.length := by omega
              have HDA := Lib.hid da; have HDC := Lib.hid dc
              have HAC := Lib.hid hAC
              clear gi gj hx hy da dc wka wkb hAC
              by_cases hle : x ≤ y
              · have hqq : (Op.bytesLess x y || x == y) = true := by
                  rw [bless]
                  by_cases e : x = y
                  · simp [e]
                  · rw [decide_eq_true (lt_of_le_ne hle e), Bool.true_or]
                have HMT := Lib.hid ((merge_take (a := A) (b := C) hle).symm)
                clear hle
                go_wp2_with fail
                go_quiet (fail)
                clear hqq
                go_wp2_with (at_builtin; refine wpList_append_fits _ rfl _ _ 41 rfl w2.heap.size 9 i0 1 Tryz.underlying41 hi hz1 w2.heap.size acc.length l.length (acc.map encStr) rfl (ownsRow_drewN (hO.out.alloc _) _) ⟨wr.heap.size, 0, none⟩ 1 1 [.string (B x)] rfl rfl (cell_one_new wr _ _) (by simp [Value.oneCell']) hfit ?_; intro w4 hown4 hgrow4)
                have hb4 : Below w2.heap.size wr w4 := (below_drewN ((Below.refl _ _).alloc (by omega) _) _).grown hgrow4 (by simp; omega) (fun k e => by cases e; omega)
                go_roundw
                case rel => exact ⟨i + 1, j, _, ob + j, cA - 1, cB, acc ++ [x], A, y :: C, rfl, rfl, by simp, by omega, by simpa using hcB, by have := HAC.out; simp; omega, Lib.hid ⟨fun h => by rw [if_neg (by have := List.length_pos_iff.2 h; omega)]; omega, HDA.out⟩, Lib.hid ⟨fun _ => rfl, hC.out.2⟩, Lib.hid (by rw [List.append_assoc, List.singleton_append, HMT.out]; exact hM.out), Lib.hid (by rw [List.length_append, List.map_append]; exact hown4), Lib.hid (hBw.out.trans hb4)⟩
                case measure => simp [sliceLen]
              · have hqq : (Op.bytesLess x y || x == y) = false := by
                  rw [bless, Bool.or_eq_false_iff]
                  exact ⟨decide_eq_false (fun h => hle (List.le_of_lt h)), beq_eq_false_iff_ne.2 (fun e => hle (by rw [e]; exact List.le_refl _))⟩
                have HMT := Lib.hid ((merge_drop (a := A) (b := C) hle).symm)
                clear hle
                go_wp2_with fail
                go_quiet (fail)
                clear hqq
                go_wp2_with (at_builtin; refine wpList_append_fits _ rfl _ _ 41 rfl w2.heap.size 9 i0 1 Tryz.underlying41 hi hz1 w2.heap.size acc.length l.length (acc.map encStr) rfl (ownsRow_drewN (hO.out.alloc _) _) ⟨wr.heap.size, 0, none⟩ 1 1 [.string (B y)] rfl rfl (cell_one_new wr _ _) (by simp [Value.oneCell']) hfit ?_; intro w4 hown4 hgrow4)
                have hb4 : Below w2.heap.size wr w4 := (below_drewN ((Below.refl _ _).alloc (by omega) _) _).grown hgrow4 (by simp; omega) (fun k e => by cases e; omega)
                go_roundw
                case rel => exact ⟨i, j + 1, oa + i, _, cA, cB - 1, acc ++ [y], x :: A, C, rfl, rfl, by simp, by simpa using hcA, by omega, by have := HAC.out; simp; omega, Lib.hid ⟨fun _ => rfl, hA.out.2⟩, Lib.hid ⟨fun h => by rw [if_neg (by have := List.length_pos_iff.2 h; omega)]; omega, HDC.out⟩, Lib.hid (by rw [List.append_assoc, List.singleton_append, HMT.out]; exact hM.out), Lib.hid (by rw [List.length_append, List.map_append]; exact hown4), Lib.hid (hBw.out.trans hb4)⟩
                case measure => simp [sliceLen]
end Go.Proofs.YtjbdmlpadoiicaaGreatDoor

/-! The reference's sorted: the strings of a set in order. -/
namespace Go.Proofs.YtjbdmlpadoiicaaGreatDoor
open Go.RowKit Go.Shelf

theorem litKey (x : List UInt8) : WideAt.IsKeyLit (Lit.string x) := trivial
theorem has_set (S : List (List UInt8)) (x : List UInt8) : Maps.has (setD S) (.string x) = true ↔ x ∈ S := by
  unfold setD
  rw [Maps.has_setOf _ _ _ (fun z hz => by obtain ⟨y, _, rfl⟩ := List.mem_map.1 hz; exact litKey y), List.any_eq_true]
  constructor
  · rintro ⟨z, hz, hk⟩
    obtain ⟨y, hy, rfl⟩ := List.mem_map.1 hz
    have := WideAt.sameKey_eq hk
    cases this; exact hy
  · intro h
    exact ⟨_, List.mem_map.2 ⟨x, h, rfl⟩, WideAt.sameKey_self (litKey x)⟩
/-- One step of a range over such a set. -/
theorem wpList_next_set (w : World) {ops : Array Oper} {rest : List Oper} {o : Oper} {a : Act} {Q : Exit → Act → World → Prop}
    (hg : o.guard = none) (it : Operand) (hop : o.op = Op.next it false) (b r n : Nat) (D : DataW Unit) (left : Lit → Bool) (cnt : Nat)
    (hit : a.eval it = .pointer (some ⟨r, 0, none⟩)) (h : w.ranges Tryz.prog 9 (plainElem (H := Unit) Tryz.prog 4) b r n D left cnt)
    (hDone : cnt = 0 → (∀ kl, left kl = false) → wpList Tryz.prog ops Q rest (a.put o.dst (.tuple #[.bool false])) w)
    (hMore : ∀ (x : List UInt8) (cv : Value) (w' : World) (cnt' : Nat), left (.string x) = true → w'.ranges Tryz.prog 9 (plainElem (H := Unit) Tryz.prog 4) b r n D (fun z => left z && !z.sameKey (.string x)) cnt' → cnt' < cnt →
      w.grownBy w' (some r) → w'.heap.size = w.heap.size → (Instr.entry (.pointer (some ⟨r, 0, none⟩))).run Tryz.prog w' = .ok (.tuple #[.string (B x), cv]) w' → wpList Tryz.prog ops Q rest (a.put o.dst (.tuple #[.bool true, .string (B x), cv])) w') :
    wpList Tryz.prog ops Q (o :: rest) a w :=
  wpList_next_ranges w hg it hop 9 lawStr (plainElem (H := Unit) Tryz.prog 4) (fun x : List UInt8 => Value.string (B x)) (fun v : Value => v)
    (fun key kl hk => by obtain ⟨x, rfl, _⟩ := WideMaps.string_of_keyOf Tryz.underlying9 hk; exact ⟨x.data.toList, by rw [B_L]⟩) (fun v y hv => ⟨v, rfl⟩) b r n D left cnt hit h hDone
    (fun x cv kl y w' cnt' hk hlk hv hat hrg hlt hgr hsz hen => by
      obtain ⟨x', ex, rfl, _⟩ := WideMaps.string_of_keyOf Tryz.underlying9 hk
      cases ex
      rw [L_B] at hlk hrg
      exact hMore x cv w' cnt' hlk hrg hlt hgr hsz hen)
/-- What has come so far: each string once. -/
def Come (S : List (List UInt8)) (left : Lit → Bool) (zs : List (List UInt8)) : Prop := zs.Nodup ∧ (∀ x, x ∈ zs ↔ x ∈ S ∧ left (.string x) = false) ∧ ∀ x, left (.string x) = true → x ∈ S
theorem Come.start (S : List (List UInt8)) : Come S (Maps.has (setD S)) [] :=
  ⟨List.nodup_nil, fun x => ⟨fun h => by simp at h, fun ⟨h1, h2⟩ => by rw [(has_set S x).2 h1] at h2; cases h2⟩, fun x h => (has_set S x).1 h⟩
theorem Come.step {S : List (List UInt8)} {left : Lit → Bool} {zs : List (List UInt8)} {y : List UInt8} (h : Come S left zs) (hy : left (.string y) = true) : Come S (fun z => left z && !z.sameKey (.string y)) (zs ++ [y]) := by
  obtain ⟨h1, h2, h3⟩ := h
  have hn : y ∉ zs := fun hm => by rw [((h2 y).1 hm).2] at hy; cases hy
  refine ⟨List.nodup_append.2 ⟨h1, by simp, fun a ha b hb e => ?_⟩, fun x => ?_, fun x hx => ?_⟩
  · rw [List.mem_singleton.1 hb] at e
    rw [e] at ha; exact hn ha
  · by_cases e : x = y
    · subst e
      simp only [List.mem_append, List.mem_singleton, or_true, true_iff, WideAt.sameKey_self (litKey x), Bool.not_true, Bool.and_false, and_true]
      exact h3 x hy
    · have : (Lit.string x).sameKey (.string y) = false := Maps.sameKey_ne (fun k => e (by cases k; rfl))
      simp only [List.mem_append, List.mem_singleton, e, or_false, this, Bool.not_false, Bool.and_true]
      exact h2 x
  · simp only [Bool.and_eq_true] at hx
    exact h3 x hx.1
theorem Come.fin {S : List (List UInt8)} {left : Lit → Bool} {zs : List (List UInt8)} (h : Come S left zs) (hl : ∀ kl, left kl = false) : ∀ x, x ∈ zs ↔ x ∈ S := fun x => (h.2.1 x).trans ⟨fun k => k.1, fun k => ⟨k, hl _⟩⟩
theorem row_far {w : World} {base n r : Nat} {e : TypeId} {v : Value} {xs : List Value} (h : w.ownsRow base e 1 v n xs) (hr : r < base) : v.ownBlock = none ∨ v.ownBlock ≠ some r := by
  rcases h.2 with ⟨rfl, _⟩ | ⟨g, cap, cur, rfl, hg, _⟩
  · left; rfl
  · right; simp [Value.ownBlock]; omega
theorem row_far' {w : World} {base n r : Nat} {e : TypeId} {v : Value} {xs : List Value} (h : w.ownsRow base e 1 v n xs) (hr : r < base) : some r ≠ v.ownBlock := by
  rcases row_far h hr with k | k
  · rw [k]; simp
  · exact Ne.symm k
theorem row_high {w : World} {base n : Nat} {e : TypeId} {v : Value} {xs : List Value} (h : w.ownsRow base e 1 v n xs) (k : Nat) (hk : v.ownBlock = some k) : base ≤ k := by
  rcases h.2 with ⟨rfl, _⟩ | ⟨g, cap, cur, rfl, hg, _⟩
  · simp [Value.ownBlock] at hk
  · simp [Value.ownBlock] at hk; omega
theorem strict_of {ys zs : List (List UInt8)} (hs : ys.Pairwise (· ≤ ·)) (hp : ys.Perm zs) (hn : zs.Nodup) : Strict ys := by
  have hn' : ys.Nodup := hp.nodup_iff.2 hn
  unfold Strict
  exact (hs.and hn').imp (fun h => lt_of_le_ne h.1 h.2)

set_option maxRecDepth 100000 in
set_option maxHeartbeats 2000000 in
theorem sorted_any (b : Nat) (S : List (List UInt8)) (hS0 : S ≠ []) (hSl : S.length ≤ 1000000) (w : World) (hS : SetAt w b S) :
    Calls Tryz.prog 43 #[.map (some b)] w fun e w' => ∃ v ys, e = .returned v ∧ TRow w' v ys ∧ Strict ys ∧ (∀ x, x ∈ ys ↔ x ∈ S) ∧ ys.length ≤ 1000000 ∧ Below w.heap.size w w' := by
  obtain ⟨i0, hi, hz0, hz1, hz2⟩ := info_parts info_str
  have hown : w.ownsMap Tryz.prog 9 (plainElem (H := Unit) Tryz.prog 4) b S.length (setD S) := hS
  have hbw : b < w.heap.size := hown.lt
  have hsz := hown.size_le
  clear hS
  go_enter Tryz.func43, Tryz.ntmps43
  go_wp2_with (first
    | (at_range; refine wpList_range_own _ rfl _ 59 rfl 9 4 lawStr Tryz.underlying59 _ b S.length _ rfl hown ?_; intro w0 hrg0 hg0 hs0)
    | go_in)
  go_frame
  have hb0 : Below w.heap.size w w0 := (Below.refl _ _).grown hg0 (Nat.le_refl _) (fun k e => by cases e)
  go_loopw [3] (fun v wr => ∃ (left : Lit → Bool) (cnt : Nat) (zs : List (List UInt8)), wr.ranges Tryz.prog 9 (plainElem (H := Unit) Tryz.prog 4) b w.heap.size S.length (setD S) left cnt ∧
      wr.ownsRow (w.heap.size + 1) 9 1 v zs.length (zs.map encStr) ∧ Hid (Come S left zs) ∧ zs.length + cnt ≤ S.length ∧ Hid (w.heap.size + 1 ≤ wr.heap.size) ∧ Hid (Below w.heap.size w wr))
    (fun _ wr => wr.rangeLeft b w.heap.size)
  case atStart => exact ⟨_, _, [], hrg0, World.ownsRow_nil _ _ _ _, Lib.hid (Come.start S), by simpa using hsz, Lib.hid (by omega), Lib.hid hb0⟩
  case round =>
    obtain ⟨left, cnt, zs, hrg, hrow, hC, hlen, hsw, hB⟩ := hrel
    go_wp2_with (first
      | (at_next; refine wpList_next_set _ rfl _ rfl b w.heap.size S.length _ _ _ rfl hrg ?_ ?_)
      | go_in)
    · intro hc0 hl0
      have hfin := hC.out.fin hl0
      have hne : zs ≠ [] := by
        obtain ⟨x, hx⟩ := List.exists_mem_of_ne_nil S hS0
        intro e
        have := (hfin x).2 hx
        rw [e] at this; simp at this
      have hzl : zs.length ≤ 1000000 := by omega
      have hT : TRow wr u3 zs := by
        rcases hrow.2 with ⟨_, h0⟩ | ⟨g, cap, cur, hv, _⟩
        · exact absurd (List.eq_nil_of_length_eq_zero h0) hne
        · rw [hv] at hrow ⊢; exact TRow.of_owned hrow
      have HCO := Lib.hid hfin
      have HTT := Lib.hid hT
      clear hfin hrg hrow hT hl0
      go_wp2_with fail
      refine (merged_any zs.length zs _ wr (Nat.le_refl _) hne hzl HTT.out).mono ?_
      rintro e w2 ⟨v', ys, rfl, hT2, hs2, hp2, hb2⟩
      have HT2 := Lib.hid hT2; have HS2 := Lib.hid hs2; have HP2 := Lib.hid hp2; have HB2 := Lib.hid hb2
      clear hT2 hs2 hp2 hb2
      go_wp2_with fail
      go_ret
      exact ⟨_, ys, rfl, HT2.out, strict_of HS2.out HP2.out hC.out.1, fun x => HP2.out.mem_iff.trans (HCO.out x), by rw [HP2.out.length_eq]; exact hzl, hB.out.trans (HB2.out.mono hB.out.size)⟩
    · intro x cv w1 cnt1 hlk hrg1 hlt hg1 hs1 hen
      have hm0 : wr.rangeLeft b w.heap.size = cnt := hrg.left_eq
      have hrow1 := hrow.kept hg1 (row_far hrow (by omega))
      have HB1 := Lib.hid (hB.out.grown hg1 hB.out.size (fun k e => by cases e; exact Nat.le_refl _))
      have hsw1 : w.heap.size + 1 ≤ w1.heap.size := by rw [hs1]; exact hsw.out
      have HC1 := Lib.hid (hC.out.step hlk)
      have HRG1 := Lib.hid hrg1
      have HS1 := Lib.hid hs1
      have h63 : zs.length + 1 ≤ maxLen := by unfold maxLen; omega
      have hbytes : (zs.length + 1) * 16 ≤ 140737488355328 := by omega
      have hlen1 : zs.length + 1 + cnt1 ≤ S.length := by omega
      have HM0 := Lib.hid hm0
      clear hrg hrow hrg1 hg1 hC hB hsw hs1 hlk hm0
      go_wp2_with (at_builtin; refine wpList_append_own _ rfl _ _ 41 rfl (w.heap.size + 1) 9 i0 (.string ⟨#[]⟩) 1 16 Tryz.underlying41 hi hz0 hz1 hz2 rfl (by decide) _ _ _ rfl (hrow1.alloc _) ⟨w1.heap.size, 0, none⟩ 1 1 [.string (B x)] rfl rfl (cell_one_new _ _ _) (by simp [Value.oneCell']) h63 hbytes (by simp; omega) ?_; intro v' w2 hown' hgrow _)
      have hrg2 := (HRG1.out.alloc _).kept hgrow (row_far' hrow1 (by omega)) (row_far' hrow1 (by omega))
      have hsz2 : w.heap.size + 1 ≤ w2.heap.size := by have := hgrow.size; simp at this; omega
      have HB2 := Lib.hid ((HB1.out.alloc (by omega) _).grown hgrow (by simp; omega) (fun k e => by have := row_high hrow1 k e; omega))
      clear hgrow
      go_wp2_with fail
      go_roundw
      case rel => exact ⟨_, cnt1, zs ++ [x], hrg2, by rw [List.length_append, List.map_append]; exact hown', HC1, by simp; omega, Lib.hid hsz2, HB2⟩
      case measure => rw [hrg2.left_eq, HM0.out]; exact hlt
end Go.Proofs.YtjbdmlpadoiicaaGreatDoor
