/- CheckBounds of package relay. -/
import Derived.Test.YtiboolbndfhomaaNA5
import Derived.Test.YtiboolbndfhomaaT0
set_option linter.unusedVariables false
set_option linter.unusedSimpArgs false
namespace Go.Proofs.Ytiboolbndfhomaa
open Go.RowKit

theorem turnC_step {P : Program} {ops : Array Oper} {md : Region.Mode} {n : Nat} {W0 : World} {Q : Act → Prop} {o : Oper} {rest : List Oper} {k : Nat} {a : Act} {v : Value} (hw : Region.wanted o (yielded ops a.tmps) = true)
    (h1 : ∀ w', Below W0.heap.size W0 w' → TurnUpon P (fun w'' => Below W0.heap.size W0 w'') v ((execOp a.eval o).run P w')) (h2 : wpTurn P ops md n (fun _ w' => Below W0.heap.size W0 w') Q rest (k + 1) (a.put o.dst v)) :
    wpTurn P ops md n (fun _ w' => Below W0.heap.size W0 w') Q (o :: rest) k a := ⟨v, .inl ⟨hw, fun _ w _ _ hC => h1 w hC⟩, h2⟩

/-- A slice of numbers that reads as a list. -/
def INRow (w : World) (v : Value) (l : List Int) : Prop :=
  (∃ a cap, v = .slice a 0 cap ∧ l = []) ∨
  ∃ b off cap, v = .slice (some ⟨b, off, none⟩) l.length cap ∧ b < w.heap.size ∧ ∀ i, i < l.length → w.cell? ⟨b, off + i, none⟩ = some (.int .i64 (l.getD i 0))
theorem INRow.form {w : World} {v : Value} {l : List Int} (h : INRow w v l) : ∃ a cap, v = .slice a l.length cap ∧ ∀ k, k < l.length → ∃ b off, a = some ⟨b, off, none⟩ ∧ b < w.heap.size ∧ w.cell? ⟨b, off + k, none⟩ = some (.int .i64 (l.getD k 0)) := by
  rcases h with ⟨a, cap, rfl, rfl⟩ | ⟨b, off, cap, rfl, hb, hc⟩
  · exact ⟨a, cap, rfl, fun k hk => by simp at hk⟩
  · exact ⟨_, cap, rfl, fun k hk => ⟨b, off, rfl, hb, hc k hk⟩⟩
theorem INRow.keep {w w' : World} {v : Value} {l : List Int} (h : INRow w v l) (hb : Below w.heap.size w w') : INRow w' v l := by
  rcases h with h | ⟨b, off, cap, rfl, h1, hc⟩
  · exact .inl h
  · exact .inr ⟨b, off, cap, rfl, Nat.lt_of_lt_of_le h1 hb.size, fun i hi => (hb.cell (p := ⟨b, _, none⟩) h1).trans (hc i hi)⟩

theorem leaveL_bd : ∀ (l : List Sp) (e d t x : Int), okS e l = true → leaveL l d t = some x → t ≤ x ∧ e < x ∧ x + d ≤ 1048576
  | [], _, _, _, _, _, h => by cases h
  | s :: l, e, d, t, x, ho, h => by
    simp only [okS, Bool.and_eq_true, decide_eq_true_eq] at ho
    obtain ⟨⟨⟨h1, h2⟩, h3⟩, h4⟩ := ho
    unfold leaveL at h
    split at h
    · cases h; omega
    · have := leaveL_bd l s.2 d t x h4 h; omega
theorem leaveO_bd {k : Lk} {t x : Int} (h : leaveO k t = some x) : t ≤ x ∧ 0 ≤ x ∧ x + k.dl ≤ 1048576 ∧ 1 ≤ k.dl := by
  unfold leaveO at h
  split at h
  · rename_i h1
    obtain ⟨d1, d2, d3, d4⟩ := linkE_ok h1
    have := leaveL_bd _ _ _ _ _ d4 h
    omega
  · cases h
def atI (l : List Int) (i : Int) : Int := l.getD i.toNat 0
def bndK (l : List Int) (k : Lk) : Bool := decide (atI l k.fr < 0) || match leaveO k (atI l k.fr) with
  | none => true
  | some d => decide (0 ≤ atI l k.to) && decide (atI l k.to ≤ d + k.dl)
def numB (x : Int) : Bool := decide (-1 ≤ x) && decide (x ≤ 1048576)
def boundsE (st : Int) (ls : List Lk) (a t : Int) (l : List Int) : Int := if startE st ls a t = 0 then
    (if (decide ((l.length : Int) = st) && decide (0 ≤ atI l a) && decide (atI l a ≤ t) && l.all numB && ls.all (bndK l)) = true then 0 else 8) else startE st ls a t
theorem startE_ok {st : Int} {ls : List Lk} {a t : Int} (h : startE st ls a t = 0) : netE st ls = 0 ∧ 0 ≤ a ∧ a < st ∧ 0 ≤ t ∧ t ≤ 1048576 := by
  unfold startE at h
  split at h
  · rename_i h1
    split at h
    · rename_i h2
      obtain ⟨h2, h3, h4⟩ := h2
      unfold stB at h2
      simp only [Bool.and_eq_true, decide_eq_true_eq] at h2
      exact ⟨h1, h2.1, h2.2, h3, h4⟩
    · cases h
  · rename_i h1; exact absurd h h1
theorem int_mem {l : List Int} {k : Nat} (hk : k < l.length) : l.getD k 0 ∈ l := by
  rw [List.getD_eq_getElem?_getD, List.getElem?_eq_getElem hk]; exact List.getElem_mem _
theorem all_drop {α : Type} (p : α → Bool) {l : List α} {k : Nat} (hk : k < l.length) : (l.drop k).all p = (p l[k] && (l.drop (k + 1)).all p) := by
  rw [List.drop_eq_getElem_cons hk]; rfl

set_option maxRecDepth 100000 in
set_option maxHeartbeats 4000000 in
theorem CheckBounds_any (st : Int) (o : Value) (ls : List Lk) (a t : Int) (v : Value) (l : List Int) (w : World) (hv : NRow w o ls) (hn : INRow w v l) (hll : l.length ≤ 1000000) :
    Calls Try.prog 27 #[ntV st o, .int .i64 a, .int .i64 t, v] w fun e w' => e = .returned (.int .i64 (boundsE st ls a t l)) ∧ Below w.heap.size w w' := by
  have HC := Lib.hid (fun w' (h : Below w.heap.size w w') => checkStart_any st o ls a t w' (hv.keep h))
  obtain ⟨oa, oc, rfl, hlc⟩ := hv.row.form
  obtain ⟨va, vc, rfl, hnc⟩ := hn.form
  have HLC := Lib.hid hlc
  have HNC := Lib.hid hnc
  have HOP := Lib.hid hv.op
  have HA := Lib.hid (fun W => net_cells w st (.slice oa ls.length oc) (W := W))
  have HB0 := Lib.hid ((Below.refl _ w).alloc (Nat.le_refl w.heap.size) (.cells #[.int .i64 st, .slice oa ls.length oc] 24))
  clear hv hlc hnc hn
  unfold ntV at HC ⊢
  by_cases hE : startE st ls a t = 0
  case neg =>
    have HV : Hid (boundsE st ls a t l = startE st ls a t) := Lib.hid (by unfold boundsE; rw [if_neg hE])
    have hz : (startE st ls a t != 0) = true := by simpa using hE
    obtain ⟨q, hq⟩ : ∃ q, startE st ls a t = q := ⟨_, rfl⟩
    rw [hq] at HC HV hz
    clear hE hq
    go_enter Try.func27, Try.ntmps27
    go_wp2_with fail
    refine (HC.out _ HB0.out).mono ?_
    rintro e w1 ⟨rfl, hb⟩
    have HB1 := Lib.hid (HB0.out.trans (hb.mono HB0.out.size))
    clear hb
    go_wp2_with fail
    go_ret
    exact ⟨ret_int' HV.out.symm, HB1.out⟩
  obtain ⟨hne, a0, a1, t0, t1⟩ := startE_ok hE
  obtain ⟨s1, s10, _, hks⟩ := netE_ok hne
  have HKS := Lib.hid hks
  have HV : Hid (boundsE st ls a t l = if (decide ((l.length : Int) = st) && decide (0 ≤ atI l a) && decide (atI l a ≤ t) && l.all numB && ls.all (bndK l)) = true then 0 else 8) := Lib.hid (by unfold boundsE; rw [if_pos hE])
  rw [hE] at HC
  clear hE hne hks
  by_cases h1 : (l.length : Int) = st
  case neg =>
    have HN : Hid (boundsE st ls a t l = 8) := Lib.hid (by rw [HV.out, decide_eq_false h1]; rfl)
    have q1 : ((l.length : Int) != st) = true := by simpa using h1
    clear h1
    go_enter Try.func27, Try.ntmps27
    go_wp2_with fail
    refine (HC.out _ HB0.out).mono ?_
    rintro e w1 ⟨rfl, hb⟩
    obtain ⟨c0, c1, hlt, hb1⟩ := HA.out w1 hb
    have HB1 := Lib.hid hb1
    clear hb hb1
    go_wp2_with fail
    go_ret
    exact ⟨ret_int' HN.out.symm, HB1.out⟩
  subst h1
  have q1 : ((l.length : Int) != (l.length : Int)) = false := by simp
  obtain ⟨m, rfl⟩ : ∃ m : Nat, a = m := ⟨a.toNat, by omega⟩
  have hml : m < l.length := by omega
  have HAT : Hid (atI l m = l.getD m 0) := Lib.hid rfl
  obtain ⟨vb, vo, rfl, hvb, cm⟩ := HNC.out m hml
  obtain ⟨x, hx⟩ : ∃ x, l.getD m 0 = x := ⟨_, rfl⟩
  rw [hx] at cm HAT
  rw [HAT.out] at HV
  have HCM : Hid (∀ W, Below w.heap.size w W → W.cell? ⟨vb, vo + m, none⟩ = some (.int .i64 x)) := Lib.hid (fun W h => (h.cell (p := ⟨vb, _, none⟩) hvb).trans cm)
  clear cm hx HAT
  by_cases h2 : x < 0
  · have HN : Hid (boundsE l.length ls m t l = 8) := Lib.hid (by rw [HV.out, decide_eq_false (p := 0 ≤ x) (by omega)]; simp)
    go_enter Try.func27, Try.ntmps27
    go_wp2_with fail
    refine (HC.out _ HB0.out).mono ?_
    rintro e w1 ⟨rfl, hb⟩
    obtain ⟨c0, c1, hlt, hb1⟩ := HA.out w1 hb
    have cx := HCM.out w1 hb1
    have HB1 := Lib.hid hb1
    clear hb hb1
    go_wp2_with fail
    go_ret
    exact ⟨ret_int' HN.out.symm, HB1.out⟩
  have q2 : decide (x < 0) = false := decide_eq_false h2
  by_cases h3 : t < x
  · have HN : Hid (boundsE l.length ls m t l = 8) := Lib.hid (by rw [HV.out, decide_eq_false (p := x ≤ t) (by omega)]; simp)
    clear h2
    go_enter Try.func27, Try.ntmps27
    go_wp2_with fail
    refine (HC.out _ HB0.out).mono ?_
    rintro e w1 ⟨rfl, hb⟩
    obtain ⟨c0, c1, hlt, hb1⟩ := HA.out w1 hb
    have cx := HCM.out w1 hb1
    have HB1 := Lib.hid hb1
    clear hb hb1
    go_wp2_with fail
    go_ret
    exact ⟨ret_int' HN.out.symm, HB1.out⟩
  have q3 : decide (t < x) = false := decide_eq_false h3
  have HV2 : Hid (boundsE l.length ls m t l = if (l.all numB && ls.all (bndK l)) = true then 0 else 8) := Lib.hid (by
    rw [HV.out, decide_eq_true (p := (l.length : Int) = l.length) rfl, decide_eq_true (p := 0 ≤ x) (by omega), decide_eq_true (p := x ≤ t) (by omega)]; rfl)
  clear h2 h3 HV
  go_enter Try.func27, Try.ntmps27
  go_wp2_with fail
  refine (HC.out _ HB0.out).mono ?_
  rintro e w1 ⟨rfl, hb⟩
  obtain ⟨c0, c1, hlt, hb1⟩ := HA.out w1 hb
  have cx := HCM.out w1 hb1
  have HB1 := Lib.hid hb1
  clear hb hb1
  go_wp2_with fail
  go_loopw [45] (fun i wr => ∃ k : Nat, k ≤ l.length ∧ i = .int .i64 k ∧ Hid (l.all numB = (l.drop k).all numB) ∧ wr = w1) (fun i _ => l.length - (intOf i).toNat)
  case atStart => exact ⟨0, Nat.zero_le _, rfl, Lib.hid rfl, rfl⟩
  case round =>
    obtain ⟨k, hk, rfl, hT, rfl⟩ := hrel
    by_cases hkl : k < l.length
    · obtain ⟨b', off', eb, hb', d0⟩ := HNC.out k hkl
      cases eb
      have hki : (k : Int) < l.length := by omega
      have hk0 : (0 : Int) ≤ k := by omega
      have e0 := (HB1.out.cell (p := ⟨vb, _, none⟩) hb').trans d0
      have hD : Hid ((l.drop k).all numB = (numB (l.getD k 0) && (l.drop (k + 1)).all numB)) := Lib.hid (by
        rw [all_drop numB hkl, List.getD_eq_getElem?_getD, List.getElem?_eq_getElem hkl]; rfl)
      obtain ⟨y, hy⟩ : ∃ y, l.getD k 0 = y := ⟨_, rfl⟩
      rw [hy] at e0 hD
      clear d0 hy
      by_cases p1 : y < -1
      · have HN : Hid (boundsE l.length ls m t l = 8) := Lib.hid (by
          rw [HV2.out, hT.out, hD.out]; unfold numB; rw [decide_eq_false (p := -1 ≤ y) (by omega)]; simp)
        clear hD
        go_wp2_with fail
        go_ret
        exact ⟨ret_int' HN.out.symm, HB1.out⟩
      have g1 : decide (y < -1) = false := decide_eq_false p1
      by_cases p2 : 1048576 < y
      · have HN : Hid (boundsE l.length ls m t l = 8) := Lib.hid (by
          rw [HV2.out, hT.out, hD.out]; unfold numB; rw [decide_eq_false (p := y ≤ 1048576) (by omega)]; simp)
        clear hD
        go_wp2_with fail
        go_ret
        exact ⟨ret_int' HN.out.symm, HB1.out⟩
      have g2 : decide (1048576 < y) = false := decide_eq_false p2
      have HN : Hid (l.all numB = (l.drop (k + 1)).all numB) := Lib.hid (by
        rw [hT.out, hD.out]; unfold numB; rw [decide_eq_true (p := -1 ≤ y) (by omega), decide_eq_true (p := y ≤ 1048576) (by omega)]; simp)
      clear hD p1 p2
      go_wp2_with fail
      go_roundw
      case rel => exact ⟨k + 1, by omega, by go_num, HN, trivial⟩
      case measure => simp [intOf]; omega
    · obtain rfl : k = l.length := by omega
      have HV3 : Hid (boundsE l.length ls m t l = if ls.all (bndK l) = true then 0 else 8) := Lib.hid (by rw [HV2.out, hT.out, List.drop_length]; rfl)
      go_wp2_with fail
      go_loopw [59] (fun i wr => ∃ k : Nat, k ≤ ls.length ∧ i = .int .i64 k ∧ Hid (ls.all (bndK l) = (ls.drop k).all (bndK l)) ∧ Hid (Below w.heap.size w wr)) (fun i _ => ls.length - (intOf i).toNat)
      case atStart => exact ⟨0, Nat.zero_le _, rfl, Lib.hid rfl, HB1⟩
      case round =>
        obtain ⟨k, hk, rfl, hT, hB⟩ := hrel
        by_cases hkl : k < ls.length
        · obtain ⟨b, off, rfl, hb, c0, c1, c2, ov, c3, hsp⟩ := HLC.out k hkl
          have hki : (k : Int) < ls.length := by omega
          have hk0 : (0 : Int) ≤ k := by omega
          have e0 := (hB.out.cell (p := ⟨b, _, none⟩) hb).trans c0
          have e1 := (hB.out.cell (p := ⟨b, _, none⟩) hb).trans c1
          have e2 := (hB.out.cell (p := ⟨b, _, none⟩) hb).trans c2
          have e3 := (hB.out.cell (p := ⟨b, _, none⟩) hb).trans c3
          have hD : Hid ((ls.drop k).all (bndK l) = (bndK l (ls.getD k .nil) && (ls.drop (k + 1)).all (bndK l))) := Lib.hid (by
            rw [all_drop (bndK l) hkl, List.getD_eq_getElem?_getD, List.getElem?_eq_getElem hkl]; rfl)
          have hlo := HOP.out _ (lk_mem hkl)
          have hen := endsB_ok (HKS.out _ (lk_mem hkl)).1
          have hsp1 := hsp.keep hB.out
          obtain ⟨x, hx⟩ : ∃ x, ls.getD k .nil = x := ⟨_, rfl⟩
          rw [hx] at e0 e1 e2 hD hlo hsp1 hen
          obtain ⟨fr, to, dl, op⟩ := x
          simp only at e0 e1 e2 hlo hen
          obtain ⟨oa', ocap, rfl, _⟩ := hsp1.form
          obtain ⟨f, rfl⟩ : ∃ f : Nat, fr = f := ⟨fr.toNat, by omega⟩
          obtain ⟨g, rfl⟩ : ∃ g : Nat, to = g := ⟨to.toNat, by omega⟩
          have hfl : f < l.length := by omega
          have hgl : g < l.length := by omega
          have hfi : (f : Int) < l.length := by omega
          have hgi : (g : Int) < l.length := by omega
          have hf0 : (0 : Int) ≤ f := by omega
          have hg0 : (0 : Int) ≤ g := by omega
          obtain ⟨b1, o1, eb1, hb1, df⟩ := HNC.out f hfl
          cases eb1
          obtain ⟨b2, o2, eb2, hb2, dg⟩ := HNC.out g hgl
          cases eb2
          obtain ⟨lf, hlf⟩ : ∃ y, l.getD f 0 = y := ⟨_, rfl⟩
          obtain ⟨lg, hlg⟩ : ∃ y, l.getD g 0 = y := ⟨_, rfl⟩
          rw [hlf] at df
          rw [hlg] at dg
          have HBK : Hid (bndK l ⟨f, g, dl, op⟩ = (decide (lf < 0) || match leaveO ⟨f, g, dl, op⟩ lf with
            | none => true
            | some d => decide (0 ≤ lg) && decide (lg ≤ d + dl))) := Lib.hid (by unfold bndK atI; rw [show ((f : Int)).toNat = f by omega, show ((g : Int)).toNat = g by omega, hlf, hlg])
          have hsz : wr.heap.size < wr.heap.size + 1 := by omega
          have HCL := Lib.hid (fun w' (h : Below wr.heap.size wr w') => Leave_any ⟨f, g, dl, op⟩ lf _ w' (hsp1.keep h) hlo)
          unfold lkV at HCL
          simp only at HCL
          have HB5 := hB
          have HDF : Hid (∀ W, Below wr.heap.size wr W → W.cell? ⟨vb, vo + f, none⟩ = some (.int .i64 lf) ∧ W.cell? ⟨vb, vo + g, none⟩ = some (.int .i64 lg)) := Lib.hid (fun W h => by
            have h' := hB.out.trans (h.mono hB.out.size)
            exact ⟨(h'.cell (p := ⟨vb, _, none⟩) hb1).trans df, (h'.cell (p := ⟨vb, _, none⟩) hb1).trans dg⟩)
          have HA : Hid (∀ W, Below (wr.alloc (.cells #[.int .i64 f, .int .i64 g, .int .i64 dl, .slice oa' op.length ocap] 27)).heap.size (wr.alloc (.cells #[.int .i64 f, .int .i64 g, .int .i64 dl, .slice oa' op.length ocap] 27)) W →
              W.cell? ⟨wr.heap.size, 0, none⟩ = some (.int .i64 f) ∧ W.cell? ⟨wr.heap.size, 1, none⟩ = some (.int .i64 g) ∧ W.cell? ⟨wr.heap.size, 2, none⟩ = some (.int .i64 dl) ∧ W.cell? ⟨wr.heap.size, 3, none⟩ = some (.slice oa' op.length ocap) ∧ W.cell? ⟨vb, vo + f, none⟩ = some (.int .i64 lf) ∧ W.cell? ⟨vb, vo + g, none⟩ = some (.int .i64 lg)) := Lib.hid (fun W h => by
            have hlt : wr.heap.size < (wr.alloc (.cells #[.int .i64 f, .int .i64 g, .int .i64 dl, .slice oa' op.length ocap] 27)).heap.size := by simp
            have hw : Below wr.heap.size wr W := ((Below.refl _ wr).alloc (Nat.le_refl _) _).trans (h.mono (Nat.le_of_lt hlt))
            refine ⟨?_, ?_, ?_, ?_, (HDF.out W hw).1, (HDF.out W hw).2⟩ <;>
              (rw [World.cell?_of_block (w := wr.alloc _) (h.block wr.heap.size hlt), World.cell?_alloc_new]; rfl))
          obtain ⟨k4, k5⟩ := HDF.out _ ((Below.refl _ wr).alloc (Nat.le_refl wr.heap.size) (.cells #[.int .i64 f, .int .i64 g, .int .i64 dl, .slice oa' op.length ocap] 27))
          have HBn : Hid (∀ W, Below (wr.alloc (.cells #[.int .i64 f, .int .i64 g, .int .i64 dl, .slice oa' op.length ocap] 27)).heap.size (wr.alloc (.cells #[.int .i64 f, .int .i64 g, .int .i64 dl, .slice oa' op.length ocap] 27)) W → Below w.heap.size w W ∧ Below wr.heap.size wr W) := Lib.hid (fun W h => by
            have hw : Below wr.heap.size wr W := ((Below.refl _ wr).alloc (Nat.le_refl _) _).trans (h.mono (by simp))
            exact ⟨hB.out.trans (hw.mono hB.out.size), hw⟩)
          clear c0 c1 c2 c3 hb hx hsp hlo hsp1 hen df dg hlf hlg hb1 hb2 hfl hgl
          by_cases p1 : lf < 0
          · have HN : Hid (ls.all (bndK l) = (ls.drop (k + 1)).all (bndK l)) := Lib.hid (by rw [hT.out, hD.out, HBK.out, decide_eq_true p1]; rfl)
            clear hD
            go_wp2_with fail
            go_roundw
            case rel => exact ⟨k + 1, by omega, by go_num, HN, Lib.hid (HBn.out _ (Below.refl _ _)).1⟩
            case measure => simp [intOf]; omega
          have g1 : decide (lf < 0) = false := decide_eq_false p1
          have HLB := Lib.hid (fun d => leaveO_bd (k := ⟨f, g, dl, op⟩) (t := lf) (x := d))
          obtain ⟨x, hx⟩ : ∃ x, leaveO ⟨f, g, dl, op⟩ lf = x := ⟨_, rfl⟩
          rw [hx] at HBK HCL HLB
          clear hx p1
          obtain ⟨W0, hW0⟩ : ∃ W0, wr.alloc (.cells #[.int .i64 f, .int .i64 g, .int .i64 dl, .slice oa' op.length ocap] 27) = W0 := ⟨_, rfl⟩
          rw [hW0] at HA HBn
          have HCL2 := Lib.hid (fun w' (h : Below W0.heap.size W0 w') => (HCL.out w' (HBn.out w' h).2).mono fun e w'' (hh : _ ∧ Below w'.heap.size w' w'') => And.intro hh.1 (h.trans (hh.2.mono h.size)))
          have K0 := HA
          cases x with
          | none =>
            have HN : Hid (ls.all (bndK l) = (ls.drop (k + 1)).all (bndK l)) := Lib.hid (by rw [hT.out, hD.out, HBK.out, g1]; rfl)
            unfold optV at HCL2
            have HW0 := Lib.hid hW0
            clear hD HBK HCL hW0
            go_wp2_with fail
            rw [HW0.out]
            refine wp_region_turn 11 (fun _ w' => Below W0.heap.size W0 w') (by kernel_rfl) (by kernel_rfl) ((Below.refl _ W0).drew) ?_
            simp only [List.take_succ_cons, List.take_zero, List.drop_succ_cons, List.drop_zero]
            (apply turnC_step (by rfl); (intro w' hw'; obtain ⟨q0, q1, q2, q3, q4, q5⟩ := K0.out w' hw'; go_simp; first | exact ⟨hw', rfl⟩ | exact rfl))
            simp only [Act.put, List.setIfInBounds_toArray, List.set_cons_succ, List.set_cons_zero]
            (apply turnC_step (by rfl); (intro w' hw'; obtain ⟨q0, q1, q2, q3, q4, q5⟩ := K0.out w' hw'; go_simp; first | exact ⟨hw', rfl⟩ | exact rfl))
            simp only [Act.put, List.setIfInBounds_toArray, List.set_cons_succ, List.set_cons_zero]
            (apply turnC_step (by rfl); (intro w' hw'; obtain ⟨q0, q1, q2, q3, q4, q5⟩ := K0.out w' hw'; go_simp; first | exact ⟨hw', rfl⟩ | exact rfl))
            simp only [Act.put, List.setIfInBounds_toArray, List.set_cons_succ, List.set_cons_zero]
            (apply turnC_step (by rfl); (intro w' hw'; obtain ⟨q0, q1, q2, q3, q4, q5⟩ := K0.out w' hw'; go_simp; first | exact ⟨hw', rfl⟩ | exact rfl))
            simp only [Act.put, List.setIfInBounds_toArray, List.set_cons_succ, List.set_cons_zero]
            (apply turnC_step (by rfl); (intro w' hw'; obtain ⟨q0, q1, q2, q3, q4, q5⟩ := K0.out w' hw'; go_simp; first | exact ⟨hw', rfl⟩ | exact rfl))
            simp only [Act.put, List.setIfInBounds_toArray, List.set_cons_succ, List.set_cons_zero]
            (apply turnC_step (by rfl); (intro w' hw'; obtain ⟨q0, q1, q2, q3, q4, q5⟩ := K0.out w' hw'; go_simp; first | exact ⟨hw', rfl⟩ | exact rfl))
            simp only [Act.put, List.setIfInBounds_toArray, List.set_cons_succ, List.set_cons_zero]
            (apply turnC_step (by rfl); (intro w' hw'; go_simp; exact HCL2.out w' hw'))
            simp only [Act.put, List.setIfInBounds_toArray, List.set_cons_succ, List.set_cons_zero]
            (apply turnC_step (by rfl); (intro w' hw'; obtain ⟨q0, q1, q2, q3, q4, q5⟩ := K0.out w' hw'; go_simp; first | exact ⟨hw', rfl⟩ | exact rfl))
            simp only [Act.put, List.setIfInBounds_toArray, List.set_cons_succ, List.set_cons_zero]
            (apply turnC_step (by rfl); (intro w' hw'; obtain ⟨q0, q1, q2, q3, q4, q5⟩ := K0.out w' hw'; go_simp; first | exact ⟨hw', rfl⟩ | exact rfl))
            simp only [Act.put, List.setIfInBounds_toArray, List.set_cons_succ, List.set_cons_zero]
            (apply turnC_step (by rfl); (intro w' hw'; obtain ⟨q0, q1, q2, q3, q4, q5⟩ := K0.out w' hw'; go_simp; first | exact ⟨hw', rfl⟩ | exact rfl))
            simp only [Act.put, List.setIfInBounds_toArray, List.set_cons_succ, List.set_cons_zero]
            (apply turnC_step (by rfl); (intro w' hw'; obtain ⟨q0, q1, q2, q3, q4, q5⟩ := K0.out w' hw'; go_simp; first | exact ⟨hw', rfl⟩ | exact rfl))
            simp only [Act.put, List.setIfInBounds_toArray, List.set_cons_succ, List.set_cons_zero]
            intro listed w4 _ hw4
            have HB4 := Lib.hid (HBn.out w4 hw4).1
            clear hw4
            go_wp2_with fail
            go_quiet (fail)
            go_wp2_with fail
            go_roundw
            case rel => exact ⟨k + 1, by omega, by go_num, HN, Lib.hid (below_drewN HB4.out _)⟩
            case measure => simp [intOf]; omega
          | some d =>
            obtain ⟨d1, d2, d3, d4⟩ := HLB.out d rfl
            have HBK2 : Hid (bndK l ⟨f, g, dl, op⟩ = (decide (lf < 0) || (decide (0 ≤ lg) && decide (lg ≤ d + dl)))) := HBK
            simp only at d3 d4
            unfold optV at HCL2
            have HW0 := Lib.hid hW0
            clear HCL hW0 HLB
            by_cases p2 : lg < 0
            · have HN : Hid (boundsE l.length ls m t l = 8) := Lib.hid (by rw [HV3.out, hT.out, hD.out, HBK2.out, g1, decide_eq_false (p := 0 ≤ lg) (by omega)]; rfl)
              clear hD HBK HBK2
              go_wp2_with fail
              rw [HW0.out]
              refine wp_region_turn 11 (fun _ w' => Below W0.heap.size W0 w') (by kernel_rfl) (by kernel_rfl) ((Below.refl _ W0).drew) ?_
              simp only [List.take_succ_cons, List.take_zero, List.drop_succ_cons, List.drop_zero]
              (apply turnC_step (by rfl); (intro w' hw'; obtain ⟨q0, q1, q2, q3, q4, q5⟩ := K0.out w' hw'; go_simp; first | exact ⟨hw', rfl⟩ | exact rfl))
              simp only [Act.put, List.setIfInBounds_toArray, List.set_cons_succ, List.set_cons_zero]
              (apply turnC_step (by rfl); (intro w' hw'; obtain ⟨q0, q1, q2, q3, q4, q5⟩ := K0.out w' hw'; go_simp; first | exact ⟨hw', rfl⟩ | exact rfl))
              simp only [Act.put, List.setIfInBounds_toArray, List.set_cons_succ, List.set_cons_zero]
              (apply turnC_step (by rfl); (intro w' hw'; obtain ⟨q0, q1, q2, q3, q4, q5⟩ := K0.out w' hw'; go_simp; first | exact ⟨hw', rfl⟩ | exact rfl))
              simp only [Act.put, List.setIfInBounds_toArray, List.set_cons_succ, List.set_cons_zero]
              (apply turnC_step (by rfl); (intro w' hw'; obtain ⟨q0, q1, q2, q3, q4, q5⟩ := K0.out w' hw'; go_simp; first | exact ⟨hw', rfl⟩ | exact rfl))
              simp only [Act.put, List.setIfInBounds_toArray, List.set_cons_succ, List.set_cons_zero]
              (apply turnC_step (by rfl); (intro w' hw'; obtain ⟨q0, q1, q2, q3, q4, q5⟩ := K0.out w' hw'; go_simp; first | exact ⟨hw', rfl⟩ | exact rfl))
              simp only [Act.put, List.setIfInBounds_toArray, List.set_cons_succ, List.set_cons_zero]
              (apply turnC_step (by rfl); (intro w' hw'; obtain ⟨q0, q1, q2, q3, q4, q5⟩ := K0.out w' hw'; go_simp; first | exact ⟨hw', rfl⟩ | exact rfl))
              simp only [Act.put, List.setIfInBounds_toArray, List.set_cons_succ, List.set_cons_zero]
              (apply turnC_step (by rfl); (intro w' hw'; go_simp; exact HCL2.out w' hw'))
              simp only [Act.put, List.setIfInBounds_toArray, List.set_cons_succ, List.set_cons_zero]
              (apply turnC_step (by rfl); (intro w' hw'; obtain ⟨q0, q1, q2, q3, q4, q5⟩ := K0.out w' hw'; go_simp; first | exact ⟨hw', rfl⟩ | exact rfl))
              simp only [Act.put, List.setIfInBounds_toArray, List.set_cons_succ, List.set_cons_zero]
              (apply turnC_step (by rfl); (intro w' hw'; obtain ⟨q0, q1, q2, q3, q4, q5⟩ := K0.out w' hw'; go_simp; first | exact ⟨hw', rfl⟩ | exact rfl))
              simp only [Act.put, List.setIfInBounds_toArray, List.set_cons_succ, List.set_cons_zero]
              (apply turnC_step (by rfl); (intro w' hw'; obtain ⟨q0, q1, q2, q3, q4, q5⟩ := K0.out w' hw'; go_simp; first | exact ⟨hw', rfl⟩ | exact rfl))
              simp only [Act.put, List.setIfInBounds_toArray, List.set_cons_succ, List.set_cons_zero]
              (apply turnC_step (by rfl); (intro w' hw'; obtain ⟨q0, q1, q2, q3, q4, q5⟩ := K0.out w' hw'; go_simp; first | exact ⟨hw', rfl⟩ | exact rfl))
              simp only [Act.put, List.setIfInBounds_toArray, List.set_cons_succ, List.set_cons_zero]
              intro listed w4 _ hw4
              have HB4 := Lib.hid (HBn.out w4 hw4).1
              obtain ⟨q0, q1', q2', q3', q4, q5⟩ := K0.out w4 hw4
              clear hw4
              go_wp2_with fail
              go_quiet (fail)
              go_wp2_with fail
              go_ret
              exact ⟨ret_int' HN.out.symm, below_drewN HB4.out _⟩
            have g2 : decide (lg < 0) = false := decide_eq_false p2
            by_cases p3 : d + dl < lg
            · have HN : Hid (boundsE l.length ls m t l = 8) := Lib.hid (by rw [HV3.out, hT.out, hD.out, HBK2.out, g1, decide_eq_false (p := lg ≤ d + dl) (by omega)]; simp)
              clear hD HBK HBK2 p2
              go_wp2_with fail
              rw [HW0.out]
              refine wp_region_turn 11 (fun _ w' => Below W0.heap.size W0 w') (by kernel_rfl) (by kernel_rfl) ((Below.refl _ W0).drew) ?_
              simp only [List.take_succ_cons, List.take_zero, List.drop_succ_cons, List.drop_zero]
              (apply turnC_step (by rfl); (intro w' hw'; obtain ⟨q0, q1, q2, q3, q4, q5⟩ := K0.out w' hw'; go_simp; first | exact ⟨hw', rfl⟩ | exact rfl))
              simp only [Act.put, List.setIfInBounds_toArray, List.set_cons_succ, List.set_cons_zero]
              (apply turnC_step (by rfl); (intro w' hw'; obtain ⟨q0, q1, q2, q3, q4, q5⟩ := K0.out w' hw'; go_simp; first | exact ⟨hw', rfl⟩ | exact rfl))
              simp only [Act.put, List.setIfInBounds_toArray, List.set_cons_succ, List.set_cons_zero]
              (apply turnC_step (by rfl); (intro w' hw'; obtain ⟨q0, q1, q2, q3, q4, q5⟩ := K0.out w' hw'; go_simp; first | exact ⟨hw', rfl⟩ | exact rfl))
              simp only [Act.put, List.setIfInBounds_toArray, List.set_cons_succ, List.set_cons_zero]
              (apply turnC_step (by rfl); (intro w' hw'; obtain ⟨q0, q1, q2, q3, q4, q5⟩ := K0.out w' hw'; go_simp; first | exact ⟨hw', rfl⟩ | exact rfl))
              simp only [Act.put, List.setIfInBounds_toArray, List.set_cons_succ, List.set_cons_zero]
              (apply turnC_step (by rfl); (intro w' hw'; obtain ⟨q0, q1, q2, q3, q4, q5⟩ := K0.out w' hw'; go_simp; first | exact ⟨hw', rfl⟩ | exact rfl))
              simp only [Act.put, List.setIfInBounds_toArray, List.set_cons_succ, List.set_cons_zero]
              (apply turnC_step (by rfl); (intro w' hw'; obtain ⟨q0, q1, q2, q3, q4, q5⟩ := K0.out w' hw'; go_simp; first | exact ⟨hw', rfl⟩ | exact rfl))
              simp only [Act.put, List.setIfInBounds_toArray, List.set_cons_succ, List.set_cons_zero]
              (apply turnC_step (by rfl); (intro w' hw'; go_simp; exact HCL2.out w' hw'))
              simp only [Act.put, List.setIfInBounds_toArray, List.set_cons_succ, List.set_cons_zero]
              (apply turnC_step (by rfl); (intro w' hw'; obtain ⟨q0, q1, q2, q3, q4, q5⟩ := K0.out w' hw'; go_simp; first | exact ⟨hw', rfl⟩ | exact rfl))
              simp only [Act.put, List.setIfInBounds_toArray, List.set_cons_succ, List.set_cons_zero]
              (apply turnC_step (by rfl); (intro w' hw'; obtain ⟨q0, q1, q2, q3, q4, q5⟩ := K0.out w' hw'; go_simp; first | exact ⟨hw', rfl⟩ | exact rfl))
              simp only [Act.put, List.setIfInBounds_toArray, List.set_cons_succ, List.set_cons_zero]
              (apply turnC_step (by rfl); (intro w' hw'; obtain ⟨q0, q1, q2, q3, q4, q5⟩ := K0.out w' hw'; go_simp; first | exact ⟨hw', rfl⟩ | exact rfl))
              simp only [Act.put, List.setIfInBounds_toArray, List.set_cons_succ, List.set_cons_zero]
              (apply turnC_step (by rfl); (intro w' hw'; obtain ⟨q0, q1, q2, q3, q4, q5⟩ := K0.out w' hw'; go_simp; first | exact ⟨hw', rfl⟩ | exact rfl))
              simp only [Act.put, List.setIfInBounds_toArray, List.set_cons_succ, List.set_cons_zero]
              intro listed w4 _ hw4
              have HB4 := Lib.hid (HBn.out w4 hw4).1
              obtain ⟨q0, q1', q2', q3', q4, q5⟩ := K0.out w4 hw4
              clear hw4
              go_wp2_with fail
              go_quiet (fail)
              go_wp2_with fail
              go_ret
              exact ⟨ret_int' HN.out.symm, below_drewN HB4.out _⟩
            have g3 : decide (d + dl < lg) = false := decide_eq_false p3
            have HN : Hid (ls.all (bndK l) = (ls.drop (k + 1)).all (bndK l)) := Lib.hid (by rw [hT.out, hD.out, HBK2.out, g1, decide_eq_true (p := 0 ≤ lg) (by omega), decide_eq_true (p := lg ≤ d + dl) (by omega)]; rfl)
            clear hD HBK HBK2 p2 p3
            go_wp2_with fail
            rw [HW0.out]
            refine wp_region_turn 11 (fun _ w' => Below W0.heap.size W0 w') (by kernel_rfl) (by kernel_rfl) ((Below.refl _ W0).drew) ?_
            simp only [List.take_succ_cons, List.take_zero, List.drop_succ_cons, List.drop_zero]
            (apply turnC_step (by rfl); (intro w' hw'; obtain ⟨q0, q1, q2, q3, q4, q5⟩ := K0.out w' hw'; go_simp; first | exact ⟨hw', rfl⟩ | exact rfl))
            simp only [Act.put, List.setIfInBounds_toArray, List.set_cons_succ, List.set_cons_zero]
            (apply turnC_step (by rfl); (intro w' hw'; obtain ⟨q0, q1, q2, q3, q4, q5⟩ := K0.out w' hw'; go_simp; first | exact ⟨hw', rfl⟩ | exact rfl))
            simp only [Act.put, List.setIfInBounds_toArray, List.set_cons_succ, List.set_cons_zero]
            (apply turnC_step (by rfl); (intro w' hw'; obtain ⟨q0, q1, q2, q3, q4, q5⟩ := K0.out w' hw'; go_simp; first | exact ⟨hw', rfl⟩ | exact rfl))
            simp only [Act.put, List.setIfInBounds_toArray, List.set_cons_succ, List.set_cons_zero]
            (apply turnC_step (by rfl); (intro w' hw'; obtain ⟨q0, q1, q2, q3, q4, q5⟩ := K0.out w' hw'; go_simp; first | exact ⟨hw', rfl⟩ | exact rfl))
            simp only [Act.put, List.setIfInBounds_toArray, List.set_cons_succ, List.set_cons_zero]
            (apply turnC_step (by rfl); (intro w' hw'; obtain ⟨q0, q1, q2, q3, q4, q5⟩ := K0.out w' hw'; go_simp; first | exact ⟨hw', rfl⟩ | exact rfl))
            simp only [Act.put, List.setIfInBounds_toArray, List.set_cons_succ, List.set_cons_zero]
            (apply turnC_step (by rfl); (intro w' hw'; obtain ⟨q0, q1, q2, q3, q4, q5⟩ := K0.out w' hw'; go_simp; first | exact ⟨hw', rfl⟩ | exact rfl))
            simp only [Act.put, List.setIfInBounds_toArray, List.set_cons_succ, List.set_cons_zero]
            (apply turnC_step (by rfl); (intro w' hw'; go_simp; exact HCL2.out w' hw'))
            simp only [Act.put, List.setIfInBounds_toArray, List.set_cons_succ, List.set_cons_zero]
            (apply turnC_step (by rfl); (intro w' hw'; obtain ⟨q0, q1, q2, q3, q4, q5⟩ := K0.out w' hw'; go_simp; first | exact ⟨hw', rfl⟩ | exact rfl))
            simp only [Act.put, List.setIfInBounds_toArray, List.set_cons_succ, List.set_cons_zero]
            (apply turnC_step (by rfl); (intro w' hw'; obtain ⟨q0, q1, q2, q3, q4, q5⟩ := K0.out w' hw'; go_simp; first | exact ⟨hw', rfl⟩ | exact rfl))
            simp only [Act.put, List.setIfInBounds_toArray, List.set_cons_succ, List.set_cons_zero]
            (apply turnC_step (by rfl); (intro w' hw'; obtain ⟨q0, q1, q2, q3, q4, q5⟩ := K0.out w' hw'; go_simp; first | exact ⟨hw', rfl⟩ | exact rfl))
            simp only [Act.put, List.setIfInBounds_toArray, List.set_cons_succ, List.set_cons_zero]
            (apply turnC_step (by rfl); (intro w' hw'; obtain ⟨q0, q1, q2, q3, q4, q5⟩ := K0.out w' hw'; go_simp; first | exact ⟨hw', rfl⟩ | exact rfl))
            simp only [Act.put, List.setIfInBounds_toArray, List.set_cons_succ, List.set_cons_zero]
            intro listed w4 _ hw4
            have HB4 := Lib.hid (HBn.out w4 hw4).1
            obtain ⟨q0, q1', q2', q3', q4, q5⟩ := K0.out w4 hw4
            clear hw4
            go_wp2_with fail
            go_quiet (fail)
            go_wp2_with fail
            go_roundw
            case rel => exact ⟨k + 1, by omega, by go_num, HN, Lib.hid (below_drewN HB4.out _)⟩
            case measure => simp [intOf]; omega
        · obtain rfl : k = ls.length := by omega
          have HN : Hid (boundsE l.length ls m t l = 0) := Lib.hid (by rw [HV3.out, hT.out, List.drop_length]; rfl)
          go_wp2_with fail
          go_ret
          exact ⟨ret_int' HN.out.symm, hB.out⟩
end Go.Proofs.Ytiboolbndfhomaa
