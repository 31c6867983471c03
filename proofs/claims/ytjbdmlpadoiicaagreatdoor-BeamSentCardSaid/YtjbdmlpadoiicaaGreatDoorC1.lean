/- byFlash and Faulted of package beam. -/
import Derived.Test.YtjbdmlpadoiicaaGreatDoorA1
import Derived.Test.YtjbdmlpadoiicaaGreatDoorC0
import Derived.Laws.Tables
import Derived.Deep.QuietTactic
import Derived.BigQuiet
import Derived.Test.YtjbdmlpadoiicaaGreatDoorT0
set_option linter.unusedVariables false
set_option linter.unusedSimpArgs false
namespace Go.Proofs.YtjbdmlpadoiicaaGreatDoor
open Go.RowKit Go.Shelf

/-- A slice of faults that reads as a list. -/
def FRow (w : World) (v : Value) (l : List Flt) : Prop :=
  (∃ a cap, v = .slice a 0 cap ∧ l = []) ∨
  ∃ b off cap, v = .slice (some ⟨b, off, none⟩) l.length cap ∧ b < w.heap.size ∧ ∀ i, i < l.length → w.cell? ⟨b, off + i * 2, none⟩ = some (.int .i64 (l.getD i (0, 0)).1) ∧ w.cell? ⟨b, off + i * 2 + 1, none⟩ = some (.int .i64 (l.getD i (0, 0)).2)

/-- The array of faults by flash, as cells. -/
def ByRep (C : Array Value) (pre : List Flt) : Prop := ∀ p : Nat, p < 100 → C[p * 2]? = some (.int .i64 (at? pre p).1) ∧ C[p * 2 + 1]? = some (.int .i64 (at? pre p).2)

theorem width_sp (k : Int) : widthI k = widthZ k := rfl

theorem FRow.form {w : World} {v : Value} {l : List Flt} (h : FRow w v l) : ∃ a cap, v = .slice a l.length cap ∧ ∀ k, k < l.length → ∃ b off, a = some ⟨b, off, none⟩ ∧ b < w.heap.size ∧ w.cell? ⟨b, off + k * 2, none⟩ = some (.int .i64 (l.getD k (0, 0)).1) ∧ w.cell? ⟨b, off + k * 2 + 1, none⟩ = some (.int .i64 (l.getD k (0, 0)).2) := by
  rcases h with ⟨a, cap, rfl, rfl⟩ | ⟨b, off, cap, rfl, hb, hc⟩
  · exact ⟨a, cap, rfl, fun k hk => by simp at hk⟩
  · exact ⟨_, cap, rfl, fun k hk => ⟨b, off, rfl, hb, hc k hk⟩⟩

theorem heap_setRow_other (w : World) (g : Nat) (cs : Array Value) (k : Nat) (h : k ≠ g) : (w.setRow g cs).heap[k]? = w.heap[k]? := by
  show (w.heap.modify g _)[k]? = w.heap[k]?
  rw [Array.getElem?_modify, if_neg (fun e => h e.symm)]
theorem below_setRow {n : Nat} {a w : World} (h : Below n a w) {g : Nat} (hg : n ≤ g) (cs : Array Value) : Below n a (w.setRow g cs) :=
  ⟨h.os, h.tape, h.output, by show _ ≤ (w.heap.modify g _).size; rw [Array.size_modify]; exact h.size, fun k hk => (heap_setRow_other w g cs k (by omega)).trans (h.block k hk)⟩

theorem zeroBy_size : Tryz.zeroCells110.size = 200 := by kernel_rfl
theorem zeroBy_rep : Tryz.zeroCells110 = Array.replicate 200 (.int .i64 0) := by kernel_rfl
theorem infoBy : (Tryz.prog.info? 110).map (·.size) = some 200 := by kernel_rfl

theorem results_by {tmps : Array Value} {w : World} {g : Nat} {C : Array Value} {x : Value} (h4 : tmps.getD 4 undef = .pointer (some ⟨g, 0, none⟩)) (h5 : tmps.getD 5 undef = x) (hg : w.heap[g]? = some (.cells C 110 (0, 0))) (hC : C.size = 200) :
    (results Tryz.f60 tmps).run Tryz.prog w = .ok (.tuple #[.agg C, x]) w := by
  have h4' : tmps[4]?.getD undef = .pointer (some ⟨g, 0, none⟩) := by simpa using h4
  have h5' : tmps[5]?.getD undef = x := by simpa using h5
  simp [results, Tryz.results60, asAddr, h4', h5', run_loadVar_row w g 110 110 C (0, 0) _ hg Tryz.underlying110 rfl (infoBy.trans (by rw [hC]))]

theorem heap_setCell_same {w : World} {g : Nat} {c : Array Value} {e : TypeId} {f : Nat × Nat} (h : w.heap[g]? = some (.cells c e f)) (o : Nat) (v : Value) : (w.setCell ⟨g, o, none⟩ v).heap[g]? = some (.cells (c.setIfInBounds o v) e f) := by
  show (w.heap.modify g _)[g]? = _
  rw [Array.getElem?_modify, if_pos rfl, h]; rfl
theorem cell_of_heap {w : World} {g : Nat} {c : Array Value} {e : TypeId} {f : Nat × Nat} (h : w.heap[g]? = some (.cells c e f)) (o : Nat) : w.cell? ⟨g, o, none⟩ = c[o]? := by simp [World.cell?, h]
theorem free_of_heap {w : World} {g : Nat} {c : Array Value} {e : TypeId} (h : w.heap[g]? = some (.cells c e (0, 0))) (o : Nat) : w.frozen? ⟨g, o, none⟩ = false := by simp [World.frozen?, h]
theorem all_set {C : Array Value} (h : C.all (·.oneCell') = true) (i : Nat) (v : Value) (hv : v.oneCell' = true) : (C.setIfInBounds i v).all (·.oneCell') = true := by
  rw [Array.all_eq_true] at h ⊢
  intro j hj
  simp only [Array.size_setIfInBounds] at hj
  rw [Array.getElem_setIfInBounds hj]
  split
  · exact hv
  · exact h j hj

/-- While a fault of kind kd at a is laid down: m of its flashes are. -/
def MidRep (C : Array Value) (pre : List Flt) (kd : Int) (a m : Nat) : Prop := ∀ p : Nat, p < 100 →
  C[p * 2]? = some (.int .i64 (if a ≤ p ∧ p < a + m then kd else (at? pre p).1)) ∧ C[p * 2 + 1]? = some (.int .i64 (if a ≤ p ∧ p < a + m then (a : Int) else (at? pre p).2))
theorem MidRep.zero {C : Array Value} {pre : List Flt} {kd : Int} {a : Nat} (h : ByRep C pre) : MidRep C pre kd a 0 := fun p hp => by
  rw [if_neg (by omega), if_neg (by omega)]; exact h p hp
theorem MidRep.step {C : Array Value} {pre : List Flt} {kd : Int} {a m : Nat} (h : MidRep C pre kd a m) (hC : C.size = 200) (ha : a + m < 100) :
    MidRep ((C.setIfInBounds ((a + m) * 2) (.int .i64 kd)).setIfInBounds ((a + m) * 2 + 1) (.int .i64 a)) pre kd a (m + 1) := fun p hp => by
  obtain ⟨h1, h2⟩ := h p hp
  by_cases e : p = a + m
  · subst e
    rw [if_pos (by omega), if_pos (by omega)]
    constructor
    · rw [Array.getElem?_setIfInBounds_ne (by omega), Array.getElem?_setIfInBounds_self_of_lt (by omega)]
    · rw [Array.getElem?_setIfInBounds_self_of_lt (by simp; omega)]
  · rw [Array.getElem?_setIfInBounds_ne (by omega), Array.getElem?_setIfInBounds_ne (by omega), Array.getElem?_setIfInBounds_ne (by omega), Array.getElem?_setIfInBounds_ne (by omega), h1, h2]
    by_cases c : a ≤ p ∧ p < a + m
    · rw [if_pos c, if_pos (by omega), if_pos c, if_pos (by omega)]; exact ⟨rfl, rfl⟩
    · rw [if_neg c, if_neg (by omega), if_neg c, if_neg (by omega)]; exact ⟨rfl, rfl⟩
theorem MidRep.done {C : Array Value} {pre : List Flt} {kd : Int} {a m : Nat} (h : MidRep C pre kd a m) (hm : (m : Int) = widthZ kd) (h0 : widthZ kd ≠ 0) (hno : ∀ i : Nat, i < m → pre.any (covers ((a : Int) + i)) = false) : ByRep C (pre ++ [(kd, (a : Int))]) := fun p hp => by
  obtain ⟨h1, h2⟩ := h p hp
  rw [h1, h2, at_snoc]
  by_cases c : a ≤ p ∧ p < a + m
  · have hn : pre.any (covers (p : Int)) = false := by
      have := hno (p - a) (by omega)
      rwa [show ((a : Int) + ((p - a : Nat) : Int)) = p from by omega] at this
    have hc : covers (p : Int) (kd, (a : Int)) = true := (covers_iff h0).2 (by omega)
    simp [c, hn, hc]
  · have hc : covers (p : Int) (kd, (a : Int)) = false := by
      cases hh : covers (p : Int) (kd, (a : Int)) with
      | false => rfl
      | true => have := (covers_iff h0).1 hh; omega
    rw [if_neg c, if_neg c, hc]
    by_cases hany : pre.any (covers (p : Int)) = true
    · simp [hany]
    · have hany' : pre.any (covers (p : Int)) = false := by simpa using hany
      simp [hany', at_none pre p hany']

set_option maxRecDepth 100000 in
set_option maxHeartbeats 1000000 in
theorem byFlash_any (n : Int) (v : Value) (l : List Flt) (w : World) (hn0 : 0 ≤ n) (hn1 : n ≤ 100) (hv : FRow w v l) (hl : l.length ≤ 1000000) :
    Calls Tryz.prog 60 #[.int .i64 n, v] w fun e w' => ∃ C, e = .returned (.tuple #[.agg C, .int .i64 (canE n l)]) ∧ C.size = 200 ∧ C.all (·.oneCell') = true ∧ (canE n l = 0 → ByRep C l) ∧ Below w.heap.size w w' := by
  obtain ⟨a, cap, rfl, hc⟩ := hv.form
  have HC := Lib.hid hc
  clear hc hv
  go_enter Tryz.func60, Tryz.ntmps60
  go_wp2_with fail
  go_loopw [8, 9, 10, 13, 37] (fun _ _ _ i _ wr => ∃ (k : Nat) (C : Array Value), k ≤ l.length ∧ i = .int .i64 k ∧ wr.heap[w.heap.size]? = some (.cells Tryz.zeroCells110 110 (0, 0)) ∧ wr.heap[w.heap.size + 1]? = some (.cells C 110 (0, 0)) ∧ C.size = 200 ∧ Hid (C.all (·.oneCell') = true ∧ ByRep C (l.take k)) ∧ Hid (∀ j (hj : j < k) (hk : k ≤ l.length), errF n (l.take j) (l[j]'(by omega)) = 0) ∧ Below w.heap.size w wr)
    (fun _ _ _ i _ _ => l.length - (intOf i).toNat)
  case atStart =>
    refine ⟨0, Tryz.zeroCells110, Nat.zero_le _, rfl, ?_, ?_, zeroBy_size, Lib.hid ⟨by kernel_rfl, ?_⟩, Lib.hid (fun j hj _ => by omega), ((Below.refl _ w).alloc (Nat.le_refl _) _).alloc (by simp) _⟩
    · exact (Below.heap_alloc _ _ _ (by simp)).trans (heap_alloc_new w _)
    · have := heap_alloc_new (w.alloc (.cells Tryz.zeroCells110 110)) (.cells Tryz.zeroCells110 110)
      rwa [World.size_alloc] at this
    · intro p hp
      have hz : ∀ i : Nat, i < 200 → Tryz.zeroCells110[i]? = some (.int .i64 0) := fun i hi => by
        rw [zeroBy_rep, Array.getElem?_replicate, if_pos hi]
      exact ⟨hz _ (by omega), hz _ (by omega)⟩
  case round =>
    obtain ⟨k, C, hk, rfl, hr0, hr1, hC, hrep, hok, hB⟩ := hrel
    have HI : Hid ((Tryz.prog.info? 110).map (·.size) = some C.size) := Lib.hid (infoBy.trans (by rw [hC]))
    have HC2 : Hid (C.size = 200) := Lib.hid hC
    have HZ : Hid (Tryz.zeroCells110.size = C.size) := Lib.hid (zeroBy_size.trans hC.symm)
    clear hC
    by_cases hlt : k < l.length
    · obtain ⟨b, off, rfl, hbw, hc0, hc1⟩ := HC.out k hlt
      have hd0 : wr.cell? ⟨b, off + k * 2, none⟩ = some (.int .i64 (l.getD k (0, 0)).1) := (hB.cell (p := ⟨b, _, none⟩) hbw).trans hc0
      have hd1 : wr.cell? ⟨b, off + k * 2 + 1, none⟩ = some (.int .i64 (l.getD k (0, 0)).2) := (hB.cell (p := ⟨b, _, none⟩) hbw).trans hc1
      obtain ⟨kd, ekd⟩ : ∃ kd, (l.getD k (0, 0)).1 = kd := ⟨_, rfl⟩
      obtain ⟨ad, ead⟩ : ∃ ad, (l.getD k (0, 0)).2 = ad := ⟨_, rfl⟩
      rw [ekd] at hd0
      rw [ead] at hd1
      have EF : Hid (l[k] = (kd, ad)) := Lib.hid (by rw [← ekd, ← ead, List.getD_eq_getElem?_getD, List.getElem?_eq_getElem hlt]; rfl)
      clear hc0 hc1 ekd ead HC
      have s0 : (wr.alloc (.cells #[.int .i64 kd, .int .i64 ad] 66)).heap[w.heap.size]? = some (.cells Tryz.zeroCells110 110 (0, 0)) := (Below.heap_alloc wr _ _ (Array.getElem?_eq_some_iff.1 hr0).1).trans hr0
      have s1 : (wr.alloc (.cells #[.int .i64 kd, .int .i64 ad] 66)).heap[w.heap.size + 1]? = some (.cells C 110 (0, 0)) := (Below.heap_alloc wr _ _ (Array.getElem?_eq_some_iff.1 hr1).1).trans hr1
      have S0 := Lib.hid s0; have S1 := Lib.hid s1; have R0 := Lib.hid hr0; have R1 := Lib.hid hr1
      clear s0 s1 hr0 hr1
      have HE1 : Hid ((widthZ kd = 0 ∨ ad < 0 ∨ n - widthZ kd < ad) → canE n l = 1) := Lib.hid fun h => by
        have e := errF_one (pre := l.take k) h
        rw [← EF.out] at e
        rw [canE_err n l k hlt (fun j hj => hok.out j hj hk) (by rw [e]; decide), e]
      rcases widthZ_cases kd with hw0 | hw0
      · have HE := Lib.hid (HE1.out (.inl hw0))
        have HW := Lib.hid hw0
        clear hw0 HE1
        go_wp2_with (first
          | (go_at_call 93; refine (width_any _ _).mono ?_; rintro e w' ⟨rfl, rfl⟩; rw [width_sp, HW.out])
          | ((with_reducible refine wpList_load_row rfl 110 _ rfl (w.heap.size + 1) ?_ 110 C (0, 0) (.array 100 66) S1.out Tryz.underlying110 ?_ HI.out ?_); exact rfl; exact rfl)
          | ((with_reducible refine wpList_store_row rfl 110 _ _ rfl w.heap.size C ?_ ?_ 110 Tryz.zeroCells110 S0.out HI.out HZ.out hrep.out.1 ?_); exact rfl; exact rfl))
        refine bodyPost_ret (v := .tuple #[.agg C, .int .i64 (canE n l)]) ?_ rfl ⟨C, rfl, HC2.out, hrep.out.1, ?_, ?_⟩
        · rw [HE.out]; exact results_by rfl rfl (setRow_heap _ _ _ _ _ _ S0.out) HC2.out
        · intro h; rw [HE.out] at h; cases h
        · exact below_setRow (hB.alloc hB.size _) (Nat.le_refl _) _
      obtain ⟨wd, hwd, hwd1, hwd2⟩ : ∃ wd : Nat, widthZ kd = wd ∧ 1 ≤ wd ∧ wd ≤ 2 := by
        rcases hw0 with ⟨e, _⟩ | ⟨e, _⟩
        · exact ⟨1, e, by omega, by omega⟩
        · exact ⟨2, e, by omega, by omega⟩
      have HW := Lib.hid hwd
      have hb0 : ((wd : Int) == 0) = false := by simp; omega
      clear hwd hw0
      by_cases hneg : ad < 0
      · have HE := Lib.hid (HE1.out (.inr (.inl hneg)))
        clear HE1
        go_wp2_with (first
          | (go_at_call 93; refine (width_any _ _).mono ?_; rintro e w' ⟨rfl, rfl⟩; rw [width_sp, HW.out])
          | ((with_reducible refine wpList_load_row rfl 110 _ rfl (w.heap.size + 1) ?_ 110 C (0, 0) (.array 100 66) S1.out Tryz.underlying110 ?_ HI.out ?_); exact rfl; exact rfl)
          | ((with_reducible refine wpList_store_row rfl 110 _ _ rfl w.heap.size C ?_ ?_ 110 Tryz.zeroCells110 S0.out HI.out HZ.out hrep.out.1 ?_); exact rfl; exact rfl))
        refine bodyPost_ret (v := .tuple #[.agg C, .int .i64 (canE n l)]) ?_ rfl ⟨C, rfl, HC2.out, hrep.out.1, ?_, ?_⟩
        · rw [HE.out]; exact results_by rfl rfl (setRow_heap _ _ _ _ _ _ S0.out) HC2.out
        · intro h; rw [HE.out] at h; cases h
        · exact below_setRow (hB.alloc hB.size _) (Nat.le_refl _) _
      by_cases hbig : n - (wd : Int) < ad
      · have HE := Lib.hid (HE1.out (.inr (.inr (by rw [HW.out]; exact hbig))))
        clear HE1
        go_wp2_with (first
          | (go_at_call 93; refine (width_any _ _).mono ?_; rintro e w' ⟨rfl, rfl⟩; rw [width_sp, HW.out])
          | ((with_reducible refine wpList_load_row rfl 110 _ rfl (w.heap.size + 1) ?_ 110 C (0, 0) (.array 100 66) S1.out Tryz.underlying110 ?_ HI.out ?_); exact rfl; exact rfl)
          | ((with_reducible refine wpList_store_row rfl 110 _ _ rfl w.heap.size C ?_ ?_ 110 Tryz.zeroCells110 S0.out HI.out HZ.out hrep.out.1 ?_); exact rfl; exact rfl))
        refine bodyPost_ret (v := .tuple #[.agg C, .int .i64 (canE n l)]) ?_ rfl ⟨C, rfl, HC2.out, hrep.out.1, ?_, ?_⟩
        · rw [HE.out]; exact results_by rfl rfl (setRow_heap _ _ _ _ _ _ S0.out) HC2.out
        · intro h; rw [HE.out] at h; cases h
        · exact below_setRow (hB.alloc hB.size _) (Nat.le_refl _) _
      have HN : Hid (¬ (widthZ kd = 0 ∨ ad < 0 ∨ n - widthZ kd < ad)) := Lib.hid (by rw [HW.out]; omega)
      obtain ⟨a, rfl⟩ := Int.eq_ofNat_of_zero_le (show 0 ≤ ad by omega)
      clear HE1
      have han : a + wd ≤ 100 := by omega
      go_wp2_with (first
          | (go_at_call 93; refine (width_any _ _).mono ?_; rintro e w' ⟨rfl, rfl⟩; rw [width_sp, HW.out])
          | ((with_reducible refine wpList_load_row rfl 110 _ rfl (w.heap.size + 1) ?_ 110 C (0, 0) (.array 100 66) S1.out Tryz.underlying110 ?_ HI.out ?_); exact rfl; exact rfl)
          | ((with_reducible refine wpList_store_row rfl 110 _ _ rfl w.heap.size C ?_ ?_ 110 Tryz.zeroCells110 S0.out HI.out HZ.out hrep.out.1 ?_); exact rfl; exact rfl))
      obtain ⟨W1, hW1⟩ : ∃ W1, wr.alloc (.cells #[.int .i64 kd, .int .i64 a] 66) = W1 := ⟨_, rfl⟩
      have g0 : W1.cell? ⟨wr.heap.size, 0, none⟩ = some (.int .i64 kd) := by subst hW1; go_simp
      have g1 : W1.cell? ⟨wr.heap.size, 1, none⟩ = some (.int .i64 a) := by clear g0; subst hW1; go_simp
      have hB1 : Below w.heap.size w W1 := by rw [← hW1]; exact hB.alloc hB.size _
      have hF : w.heap.size + 1 < wr.heap.size := (Array.getElem?_eq_some_iff.1 R1.out).1
      rw [hW1] at S0 S1 ⊢
      clear hW1 R0 R1 hd0 hd1 hB HI HZ
      obtain ⟨F, eF⟩ : ∃ F, wr.heap.size = F := ⟨_, rfl⟩
      rw [eF] at g0 g1 hF ⊢
      clear eF wr
      go_loopw [10, 37] (fun _ j wj => ∃ (m : Nat) (C' : Array Value), m ≤ wd ∧ j = .int .i64 m ∧ Hid (wj.heap[w.heap.size]? = some (.cells Tryz.zeroCells110 110 (0, 0))) ∧ Hid (wj.heap[w.heap.size + 1]? = some (.cells C' 110 (0, 0))) ∧ Hid (C'.size = 200) ∧ Hid (C'.all (·.oneCell') = true ∧ MidRep C' (l.take k) kd a m) ∧ Hid (∀ i : Nat, i < m → (l.take k).any (covers ((a : Int) + i)) = false) ∧ wj.cell? ⟨F, 0, none⟩ = some (.int .i64 kd) ∧ wj.cell? ⟨F, 1, none⟩ = some (.int .i64 a) ∧ Below w.heap.size w wj)
        (fun _ j _ => wd - (intOf j).toNat)
      case atStart => exact ⟨0, C, Nat.zero_le _, rfl, S0, S1, HC2, Lib.hid ⟨hrep.out.1, MidRep.zero hrep.out.2⟩, Lib.hid (fun i h => by omega), g0, g1, hB1⟩
      case round =>
        obtain ⟨m, C', hm, rfl, Z0, Z1, HC', hm2, hno, d0, d1, hBj⟩ := hrel
        clear g0 g1 hB1 S0 S1 HC2 hrep
        have HI' : Hid ((Tryz.prog.info? 110).map (·.size) = some C'.size) := Lib.hid (infoBy.trans (by rw [HC'.out]))
        have HZ' : Hid (Tryz.zeroCells110.size = C'.size) := Lib.hid (zeroBy_size.trans HC'.out.symm)
        by_cases hmw : m < wd
        · have hK := (hm2.out.2 (a + m) (by omega)).1
          have hK1 := (hm2.out.2 (a + m) (by omega)).2
          rw [if_neg (by omega)] at hK hK1
          obtain ⟨K, eK⟩ : ∃ K, (at? (l.take k) ((a + m : Nat) : Int)).1 = K := ⟨_, rfl⟩
          obtain ⟨K1, eK1⟩ : ∃ K1, (at? (l.take k) ((a + m : Nat) : Int)).2 = K1 := ⟨_, rfl⟩
          rw [eK] at hK
          rw [eK1] at hK1
          have c0 : wr.cell? ⟨w.heap.size + 1, (a + m) * 2, none⟩ = some (.int .i64 K) := (cell_of_heap Z1.out _).trans hK
          have c1 : wr.cell? ⟨w.heap.size + 1, (a + m) * 2 + 1, none⟩ = some (.int .i64 K1) := (cell_of_heap Z1.out _).trans hK1
          have f0 : wr.frozen? ⟨w.heap.size + 1, (a + m) * 2, none⟩ = false := free_of_heap Z1.out _
          have f1 : wr.frozen? ⟨w.heap.size + 1, (a + m) * 2 + 1, none⟩ = false := free_of_heap Z1.out _
          have hA : (l.take k).any (covers ((a : Int) + m)) = true ↔ K ≠ 0 := by
            rw [← eK, Int.natCast_add]; exact any_at _ _ (prefix_widths (n := n) hk (fun j hj => hok.out j hj hk))
          have HA := Lib.hid hA
          clear hK hK1 eK eK1 hA
          by_cases hK0 : K = 0
          · subst hK0
            have hA2 : (l.take k).any (covers ((a : Int) + m)) = false := by
              cases hh : (l.take k).any (covers ((a : Int) + m)) with
              | false => rfl
              | true => exact absurd rfl (HA.out.1 hh)
            have HA2 := Lib.hid hA2
            clear hA2 HA
            go_wp2_with fail
            go_roundw
            case rel =>
              refine ⟨m + 1, _, by omega, by go_num, Lib.hid ((Below.heap_setCell _ _ _ _ (by simp)).trans ((Below.heap_setCell _ _ _ _ (by simp)).trans Z0.out)), Lib.hid (heap_setCell_same (heap_setCell_same Z1.out _ _) _ _), Lib.hid (by simp [HC'.out]), Lib.hid ⟨all_set (all_set hm2.out.1 _ _ rfl) _ _ rfl, MidRep.step hm2.out.2 HC'.out (by omega)⟩, Lib.hid (fun i hi => ?_), ?_, ?_, ?_⟩
              · by_cases e : i = m
                · subst e; exact HA2.out
                · exact hno.out i (by omega)
              · rw [World.cell?_setCell_other _ _ _ _ (by simp <;> omega), World.cell?_setCell_other _ _ _ _ (by simp <;> omega)]; exact d0
              · rw [World.cell?_setCell_other _ _ _ _ (by simp <;> omega), World.cell?_setCell_other _ _ _ _ (by simp <;> omega)]; exact d1
              · exact (hBj.setCell (p := ⟨w.heap.size + 1, _, none⟩) (by simp) _).setCell (p := ⟨w.heap.size + 1, _, none⟩) (by simp) _
            case measure => simp [intOf]; omega
          · have HE : Hid (canE n l = 6) := Lib.hid (by
              have e := errF_six (n := n) (pre := l.take k) HN.out m (by omega) (by rw [HW.out]; omega) (HA.out.2 hK0)
              rw [← EF.out] at e
              rw [canE_err n l k hlt (fun j hj => hok.out j hj hk) (by rw [e]; decide), e])
            have hK0' : (K != 0) = true := by simpa using hK0
            clear HA hK0
            go_wp2_with (first
          | (go_at_call 93; refine (width_any _ _).mono ?_; rintro e w' ⟨rfl, rfl⟩; rw [width_sp, HW.out])
          | ((with_reducible refine wpList_load_row rfl 110 _ rfl (w.heap.size + 1) ?_ 110 C' (0, 0) (.array 100 66) Z1.out Tryz.underlying110 ?_ HI'.out ?_); exact rfl; exact rfl)
          | ((with_reducible refine wpList_store_row rfl 110 _ _ rfl w.heap.size C' ?_ ?_ 110 Tryz.zeroCells110 Z0.out HI'.out HZ'.out hm2.out.1 ?_); exact rfl; exact rfl))
            refine bodyPost_ret (v := .tuple #[.agg C', .int .i64 (canE n l)]) ?_ rfl ⟨C', rfl, HC'.out, hm2.out.1, ?_, ?_⟩
            · rw [HE.out]; exact results_by rfl rfl (setRow_heap _ _ _ _ _ _ Z0.out) HC'.out
            · intro h; rw [HE.out] at h; cases h
            · exact below_setRow (hBj) (Nat.le_refl _) _
        · obtain rfl : m = wd := by omega
          go_wp2_with fail
          go_roundw
          case rel =>
            refine ⟨k + 1, C', by omega, by go_num, Z0.out, Z1.out, HC'.out, Lib.hid ⟨hm2.out.1, ?_⟩, Lib.hid (fun j hj hk' => ?_), hBj⟩
            · rw [List.take_succ_eq_append_getElem hlt, EF.out]
              exact MidRep.done hm2.out.2 HW.out.symm (by rw [HW.out]; omega) hno.out
            · by_cases e : j = k
              · subst e
                rw [EF.out]
                exact errF_ok HN.out (fun i h0 h1 => by
                  rw [HW.out] at h1
                  have := hno.out i.toNat (by omega)
                  rwa [Int.toNat_of_nonneg h0] at this)
              · exact hok.out j (by omega) hk
          case measure => simp [intOf]; omega
    · obtain rfl : k = l.length := by omega
      have R0 := Lib.hid hr0; have R1 := Lib.hid hr1
      clear hr0 hr1
      have HE : Hid (canE n l = 0) := Lib.hid (canE_ok n l (fun j hj => by have := hok.out j hj (Nat.le_refl _); exact this))
      go_wp2_with (first
          | ((with_reducible refine wpList_load_row rfl 110 _ rfl (w.heap.size + 1) ?_ 110 C (0, 0) (.array 100 66) R1.out Tryz.underlying110 ?_ HI.out ?_); exact rfl; exact rfl)
          | ((with_reducible refine wpList_store_row rfl 110 _ _ rfl w.heap.size C ?_ ?_ 110 Tryz.zeroCells110 R0.out HI.out HZ.out hrep.out.1 ?_); exact rfl; exact rfl))
      refine bodyPost_ret (v := .tuple #[.agg C, .int .i64 (canE n l)]) ?_ rfl ⟨C, rfl, HC2.out, hrep.out.1, ?_, ?_⟩
      · rw [HE.out]; exact results_by rfl rfl (setRow_heap _ _ _ _ _ _ R0.out) HC2.out
      · intro _; have := hrep.out.2; rwa [List.take_length] at this
      · exact below_setRow hB (Nat.le_refl _) _
end Go.Proofs.YtjbdmlpadoiicaaGreatDoor
