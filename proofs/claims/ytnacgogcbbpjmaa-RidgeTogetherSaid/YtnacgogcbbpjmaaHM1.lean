/- placeAt and places of package ridge. -/
import Derived.Test.YtnacgogcbbpjmaaHC1
import Derived.Test.YtnacgogcbbpjmaaHJ0
import Derived.Test.YtnacgogcbbpjmaaHL1
import Derived.Test.YtnacgogcbbpjmaaHB6
set_option linter.unusedVariables false
set_option linter.unusedSimpArgs false
namespace Go.Proofs.Ytnacgogcbbpjmaa
open Go Go.RowKit

def encP (p : Pl) : List Value := [.int .i64 p.1, .int .i64 p.2]
/-- The place whose height has a number. -/
def plI (wd : Int) (i : Nat) : Pl := ((i : Int) % wd, (i : Int) / wd)
/-- The first places of a map. -/
def plN (wd : Int) (m : Nat) : List Pl := (List.range m).map (plI wd)
theorem plN_len (wd : Int) (m : Nat) : (plN wd m).length = m := by unfold plN; simp
theorem plN_succ (wd : Int) (m : Nat) : plN wd (m + 1) = plN wd m ++ [plI wd m] := by unfold plN; rw [List.range_succ, List.map_append]; rfl
theorem plN_flat (wd : Int) (m : Nat) : (plN wd (m + 1)).flatMap encP = (plN wd m).flatMap encP ++ encP (plI wd m) := by rw [plN_succ, List.flatMap_append]; simp
theorem info_pl3 : (Try.prog.info? 32).map (fun i => (i.zero, i.size, i.bytes)) = some (some (.agg #[.int .i64 0, .int .i64 0]), 2, 16) := by kernel_rfl
theorem info_plc : (Try.prog.info? 32).map (·.size) = some 2 := by kernel_rfl
set_option maxRecDepth 100000 in
set_option maxHeartbeats 1000000 in
theorem placeAt_any (wd hg : Int) (o : Value) (i : Nat) (w : World) (hw : 1 ≤ wd ∧ wd ≤ 49) (hi : i ≤ 2401) (ho : ∃ a n c, o = .slice a n c) :
    Calls Try.prog 30 #[.agg #[.int .i64 wd, .int .i64 hg, o], .int .i64 i] w fun e w' => e = .returned (.agg #[.int .i64 (plI wd i).1, .int .i64 (plI wd i).2]) ∧ Below w.heap.size w w' := by
  obtain ⟨oa, on, oc, rfl⟩ := ho
  have hz : ¬ wd = 0 := by omega
  have hm0 := Int.emod_nonneg (i : Int) hz
  have hm1 := Int.emod_lt_of_pos (i : Int) (by omega : 0 < wd)
  have hd0 := Int.ediv_nonneg (by omega : 0 ≤ (i : Int)) (by omega : 0 ≤ wd)
  have hd1 := Int.ediv_le_self wd (by omega : 0 ≤ (i : Int))
  have d1 : (i : Int).tdiv wd = (i : Int) / wd := Int.tdiv_eq_ediv_of_nonneg (by omega)
  have d3 : (i : Int).tmod wd = (i : Int) % wd := Int.tmod_eq_emod_of_nonneg (by omega)
  have w3 : wrap64 ((i : Int) / wd) = (i : Int) / wd := w64 (by omega)
  have w4 : IntKind.i64.wrap ((i : Int) / wd) = (i : Int) / wd := IntWalk.i64_in _ (by omega)
  have w5 : IntKind.i64.wrap ((i : Int) % wd) = (i : Int) % wd := IntWalk.i64_in _ (by omega)
  have w6 : wrap64 ((i : Int) % wd) = (i : Int) % wd := w64 (by omega)
  clear hm0 hm1 hd0 hd1
  have HA : Hid (∀ W', Below ((w.alloc (.cells #[.int .i64 wd, .int .i64 hg, .slice oa on oc] 24)).alloc (.cells #[.int .i64 0, .int .i64 0] 32)).heap.size ((w.alloc (.cells #[.int .i64 wd, .int .i64 hg, .slice oa on oc] 24)).alloc (.cells #[.int .i64 0, .int .i64 0] 32)) W' → W'.heap[w.heap.size]? = some (.cells #[.int .i64 wd, .int .i64 hg, .slice oa on oc] 24 (0, 0)) ∧ W'.heap[w.heap.size + 1]? = some (.cells #[.int .i64 0, .int .i64 0] 32 (0, 0)) ∧ Below w.heap.size w W') := Lib.hid (fun W' h => by
    obtain ⟨m0, m1, _, hb⟩ := two_cells w _ _ _ _ h
    exact ⟨m0, m1, hb⟩)
  obtain ⟨W1, hW1⟩ : ∃ X, (w.alloc (.cells #[.int .i64 wd, .int .i64 hg, .slice oa on oc] 24)).alloc (.cells #[.int .i64 0, .int .i64 0] 32) = X := ⟨_, rfl⟩
  rw [hW1] at HA
  have HW1 := Lib.hid hW1
  clear hW1
  unfold plI
  simp only
  go_enter Try.func30, Try.ntmps30
  go_wp2_with fail
  rw [HW1.out]
  refine wp_region_turn 9 (fun _ w' => Below W1.heap.size W1 w') (by kernel_rfl) (by kernel_rfl) ((Below.refl _ W1).drew) ?_
  simp only [List.take_succ_cons, List.take_zero, List.drop_succ_cons, List.drop_zero]
  iterate 9
    (apply turnC_step (by rfl); (intro w' hw'; obtain ⟨m0, _, _⟩ := HA.out w' hw'; have q0 := cellH m0 0; simp only [List.getElem?_toArray, List.getElem?_cons_zero] at q0; clear m0; go_simp; first | exact ⟨hw', rfl⟩ | exact rfl))
    simp only [Act.put, List.setIfInBounds_toArray, List.set_cons_succ, List.set_cons_zero]
  intro listed w2 _ hw2
  obtain ⟨_, m1, hb⟩ := HA.out w2 hw2
  have v0 := cellH m1 0
  have v1 := cellH m1 1
  have vf := freeH m1
  simp at v0 v1
  have HR := Lib.hid (heap_same (heap_same m1 0 (.int .i64 ((i : Int) % wd))) 1 (.int .i64 ((i : Int) / wd)))
  have HB := Lib.hid ((hb.setCell (p := ⟨w.heap.size + 1, 0, none⟩) (by simp) (.int .i64 ((i : Int) % wd))).setCell (p := ⟨w.heap.size + 1, 1, none⟩) (by simp) (.int .i64 ((i : Int) / wd)))
  clear m1 hb hw2
  go_wp2_with fail
  exact bodyPost_ret (results_cell_row Try.results30 _ _ (w.heap.size + 1) 32 #[.int .i64 ((i : Int) % wd), .int .i64 ((i : Int) / wd)] (0, 0) _ rfl HR.out Try.underlying32 rfl info_plc) rfl ⟨rfl, HB.out⟩
set_option maxRecDepth 100000 in
set_option maxHeartbeats 2000000 in
theorem places_any (wd hg : Int) (o : Value) (g : List Int) (w : World) (hv : INRow w o g) (hm : vmB wd hg g = true) :
    Calls Try.prog 27 #[.agg #[.int .i64 wd, .int .i64 hg, o]] w fun e w' => ∃ v', e = .returned v' ∧ Below w.heap.size w w' ∧ w'.ownsRow w.heap.size 32 2 v' g.length ((plN wd g.length).flatMap encP) := by
  obtain ⟨a1, a2, a3, a4, a5, _⟩ := vmB_ok hm
  have hgm : g.length ≤ 2401 := by
    have h1 : wd * hg ≤ 49 * 49 := Int.mul_le_mul a2 a4 (by omega) (by omega)
    omega
  obtain ⟨oa, oc, rfl, _⟩ := hv.form
  obtain ⟨n, hn⟩ : ∃ n, g.length = n := ⟨_, rfl⟩
  rw [hn] at hgm ⊢
  have HPA := Lib.hid (fun i (hi : i < n) w' => placeAt_any wd hg (.slice oa n oc) i w' ⟨a1, a2⟩ (by omega) ⟨_, _, _, rfl⟩)
  have HB0 := Lib.hid ((Below.refl _ w).alloc (Nat.le_refl w.heap.size) (.cells #[.int .i64 wd, .int .i64 hg, .slice oa n oc] 24))
  have HR0 : Hid ((w.alloc (.cells #[.int .i64 wd, .int .i64 hg, .slice oa n oc] 24)).heap[w.heap.size]? = some (.cells #[.int .i64 wd, .int .i64 hg, .slice oa n oc] 24 (0, 0))) := Lib.hid (heap_alloc_new _ _)
  obtain ⟨W1, hW1⟩ : ∃ X, w.alloc (.cells #[.int .i64 wd, .int .i64 hg, .slice oa n oc] 24) = X := ⟨_, rfl⟩
  rw [hW1] at HB0 HR0
  have HW1 := Lib.hid hW1
  have HRD : Hid (∀ W', Below W1.heap.size W1 W' → W'.cell? ⟨w.heap.size, 0, none⟩ = some (.int .i64 wd) ∧ W'.cell? ⟨w.heap.size, 1, none⟩ = some (.int .i64 hg) ∧ W'.cell? ⟨w.heap.size, 2, none⟩ = some (.slice oa n oc)) := Lib.hid (fun W' h => by
    have m0 := (h.block _ (Array.getElem?_eq_some_iff.1 HR0.out).1).trans HR0.out
    exact ⟨cellH m0 0, cellH m0 1, cellH m0 2⟩)
  obtain ⟨i0, hi0, hz0, hz1, hz2⟩ := info_parts info_pl3
  clear hW1 hv hm hn a1 a2 a3 a4 a5
  go_enter Try.func27, Try.ntmps27
  go_wp2_with fail
  rw [HW1.out]
  obtain ⟨q0, q1, q2⟩ := HRD.out W1 (Below.refl _ _)
  go_wp2_with fail
  clear q0 q1 q2
  go_loopw [3, 8] (fun v i wr => ∃ (k : Nat), k ≤ n ∧ i = .int .i64 k ∧ Hid (Below W1.heap.size W1 wr) ∧ Hid (wr.ownsRow W1.heap.size 32 2 v k ((plN wd k).flatMap encP))) (fun _ i _ => n - (intOf i).toNat)
  case atStart => exact ⟨0, Nat.zero_le _, rfl, Lib.hid (Below.refl _ _), Lib.hid (World.ownsRow_nil _ _ _ _)⟩
  case round =>
    obtain ⟨k, hk, rfl, hB, hO⟩ := hrel
    obtain ⟨q0, q1, q2⟩ := HRD.out wr hB.out
    by_cases hkl : k < n
    · have hki : (k : Int) < n := by omega
      have hk0 : (0 : Int) ≤ k := by omega
      have HP1 := Lib.hid (HPA.out k hkl)
      have HFL := Lib.hid (plN_flat wd k)
      obtain ⟨⟨x, y⟩, hxy⟩ : ∃ q, plI wd k = q := ⟨_, rfl⟩
      rw [hxy] at HP1 HFL
      simp only at HP1
      clear hxy
      go_wp2_with fail
      refine (HP1.out _).mono ?_
      rintro e w5 ⟨rfl, hb5⟩
      have HB5 := Lib.hid (hB.out.trans (hb5.mono hB.out.size))
      have hO5 := own_below hO.out hb5
      have h63 : k + 1 ≤ maxLen := by unfold maxLen; omega
      have hby : (k + 1) * 16 ≤ 140737488355328 := by omega
      have hbase : W1.heap.size ≤ w5.heap.size := HB5.out.size
      clear hb5 q0 q1 q2
      go_wp2_with (at_builtin; refine wpList_append_own _ rfl _ _ 40 rfl W1.heap.size 32 i0 (.agg #[.int .i64 0, .int .i64 0]) 2 16 Try.underlying40 hi0 hz0 hz1 hz2 rfl (by decide) _ _ _ rfl (World.ownsRow.alloc hO5 _) ⟨w5.heap.size, 0, none⟩ 1 1 [.int .i64 x, .int .i64 y] rfl rfl (fun j u h => cell_two' _ _ _ _ j u h) (by simp [Value.oneCell']) h63 hby (by simp; omega) ?_; intro v' w6 hown' hgrow _)
      have HB6 : Hid (Below W1.heap.size W1 w6) := Lib.hid ((HB5.out.alloc hbase _).grown hgrow (by simp; omega) (fun j e => (World.ownsRow.lt hO5 j e).1))
      have HO6 : Hid (w6.ownsRow W1.heap.size 32 2 v' (k + 1) ((plN wd (k + 1)).flatMap encP)) := Lib.hid (by
        rw [HFL.out]; exact hown')
      clear hown' hgrow hO5
      go_wp2_with fail
      go_roundw
      case rel => exact ⟨k + 1, by omega, by go_num, HB6, HO6⟩
      case measure => simp [intOf]; omega
    · obtain rfl : k = n := by omega
      have HBW := Lib.hid (HB0.out.trans (hB.out.mono HB0.out.size))
      go_wp2_with fail
      go_ret
      exact ⟨_, rfl, HBW.out, own_base hO.out HB0.out.size⟩
end Go.Proofs.Ytnacgogcbbpjmaa

/-! checkTower of package ridge; rows of places. -/
set_option linter.unusedVariables false
set_option linter.unusedSimpArgs false
namespace Go.Proofs.Ytnacgogcbbpjmaa
open Go Go.RowKit

theorem flatP_len (l : List Pl) : (l.flatMap encP).length = l.length * 2 := by
  induction l with
  | nil => rfl
  | cons p l ih => rw [List.flatMap_cons, List.length_append, ih, List.length_cons]; simp [encP]; omega
theorem flatP_get : ∀ (l : List Pl) (i : Nat), i < l.length → (l.flatMap encP)[i * 2]? = some (.int .i64 (l.getD i (0, 0)).1) ∧ (l.flatMap encP)[i * 2 + 1]? = some (.int .i64 (l.getD i (0, 0)).2)
  | [], i, h => by simp at h
  | p :: l, 0, _ => by simp [encP]
  | p :: l, i + 1, h => by
    have h2 := flatP_get l i (by simpa using h)
    rw [List.flatMap_cons]
    have e1 : (i + 1) * 2 = (encP p).length + i * 2 := by simp [encP]; omega
    have e2 : (i + 1) * 2 + 1 = (encP p).length + (i * 2 + 1) := by simp [encP]; omega
    rw [e2, List.getElem?_append_right (by omega), e1, List.getElem?_append_right (by omega)]
    simpa [List.getD_eq_getElem?_getD] using h2
/-- A slice of places that reads as a list. -/
def PlRow (w : World) (v : Value) (l : List Pl) : Prop :=
  (∃ a cap, v = .slice a 0 cap ∧ l = []) ∨
  ∃ b off cap, v = .slice (some ⟨b, off, none⟩) l.length cap ∧ l.length ≤ cap ∧ b < w.heap.size ∧ ∀ i, i < l.length → w.cell? ⟨b, off + i * 2, none⟩ = some (.int .i64 (l.getD i (0, 0)).1) ∧ w.cell? ⟨b, off + i * 2 + 1, none⟩ = some (.int .i64 (l.getD i (0, 0)).2)
theorem PlRow.form {w : World} {v : Value} {l : List Pl} (h : PlRow w v l) : ∃ a cap, v = .slice a l.length cap ∧ ∀ i, i < l.length → ∃ b off, a = some ⟨b, off, none⟩ ∧ l.length ≤ cap ∧ b < w.heap.size ∧ w.cell? ⟨b, off + i * 2, none⟩ = some (.int .i64 (l.getD i (0, 0)).1) ∧ w.cell? ⟨b, off + i * 2 + 1, none⟩ = some (.int .i64 (l.getD i (0, 0)).2) := by
  rcases h with ⟨a, cap, rfl, rfl⟩ | ⟨b, off, cap, rfl, hp, hb, hc⟩
  · exact ⟨a, cap, rfl, fun k hk => by simp at hk⟩
  · exact ⟨_, cap, rfl, fun k hk => ⟨b, off, rfl, hp, hb, hc k hk⟩⟩
theorem PlRow.keep {w w' : World} {v : Value} {l : List Pl} (h : PlRow w v l) (hb : Below w.heap.size w w') : PlRow w' v l := by
  rcases h with h | ⟨b, off, cap, rfl, hp, h1, hc⟩
  · exact .inl h
  · exact .inr ⟨b, off, cap, rfl, hp, Nat.lt_of_lt_of_le h1 hb.size, fun i hi => ⟨(hb.cell (p := ⟨b, _, none⟩) h1).trans (hc i hi).1, (hb.cell (p := ⟨b, _, none⟩) h1).trans (hc i hi).2⟩⟩
theorem PlRow.of_own {w : World} {base : Nat} {v : Value} {l : List Pl} (h : w.ownsRow base 32 2 v l.length (l.flatMap encP)) : PlRow w v l := by
  rcases h.2 with ⟨h1, h2⟩ | ⟨nb, nc, cur, e1, e2, e3, e4, e5, e6, e7⟩
  · have : l = [] := List.eq_nil_of_length_eq_zero h2
    subst this
    exact .inl ⟨none, 0, h1, rfl⟩
  · refine .inr ⟨nb, 0, nc, e1, by omega, (Array.getElem?_eq_some_iff.1 e3).1, fun i hi => ?_⟩
    have hl := flatP_len l
    obtain ⟨g1, g2⟩ := flatP_get l i hi
    have h7 : cur.toList.take (l.length * 2) = l.flatMap encP := by simpa using e7
    rw [← h7] at g1 g2
    rw [List.getElem?_take_of_lt (by omega), Array.getElem?_toList] at g1 g2
    rw [cellH e3, cellH e3, Nat.zero_add]
    exact ⟨g1, g2⟩
/-- The first fault of a country and an ID. -/
def ctE (wd hg : Int) (g : List Int) (T : List Tw) (Z : List Hz) (id : Int) : Int := if ckE wd hg g T Z = 0 then (if (twF T id).isSome = true then 0 else 5) else ckE wd hg g T Z
def ctT (wd hg : Int) (g : List Int) (T : List Tw) (Z : List Hz) (id : Int) : Tw := if ckE wd hg g T Z = 0 then (twF T id).getD .nil else .nil
end Go.Proofs.Ytnacgogcbbpjmaa

/-! Seen of package ridge. -/
set_option linter.unusedVariables false
set_option linter.unusedSimpArgs false
namespace Go.Proofs.Ytnacgogcbbpjmaa
open Go Go.RowKit

theorem plI_on {wd hg : Int} {g : List Int} {i : Nat} (hm : vmB wd hg g = true) (hi : i < g.length) : onB wd hg (plI wd i) = true := by
  obtain ⟨a1, a2, a3, a4, a5, _⟩ := vmB_ok hm
  refine onB_mk ?_
  unfold plI
  simp only
  refine ⟨Int.emod_nonneg _ (by omega), Int.emod_lt_of_pos _ (by omega), Int.ediv_nonneg (by omega) (by omega), ?_⟩
  refine Int.ediv_lt_of_lt_mul (by omega) ?_
  rw [Int.mul_comm]; omega
theorem plN_get {wd : Int} {m i : Nat} (h : i < m) : (plN wd m).getD i (0, 0) = plI wd i := by
  unfold plN
  rw [List.getD_eq_getElem?_getD, List.getElem?_map, List.getElem?_range h]; rfl
theorem plN_take {wd : Int} {m k : Nat} (h : k ≤ m) : (plN wd m).take k = plN wd k := by
  unfold plN
  rw [← List.map_take, List.take_range, Nat.min_eq_left h]
theorem ct_ok {wd hg : Int} {g : List Int} {T : List Tw} {Z : List Hz} {id : Int} (h : ctE wd hg g T Z id = 0) : ckE wd hg g T Z = 0 ∧ (∃ t ∈ T, ctT wd hg g T Z id = t ∧ t.id = id) := by
  unfold ctE at h
  split at h
  case isFalse h1 => exact absurd h h1
  case isTrue h1 =>
    refine ⟨h1, ?_⟩
    unfold ctT
    rw [if_pos h1]
    cases q : twF T id with
    | none => rw [q] at h; simp at h
    | some t =>
      unfold twF at q
      exact ⟨t, List.mem_of_find?_eq_some q, rfl, by have := List.find?_some q; simpa using this⟩
/-- The first fault of Seen. -/
def seE (wd hg : Int) (g : List Int) (T : List Tw) (Z : List Hz) (id rise : Int) : Int := if ctE wd hg g T Z id = 0 then (if wiB rise 0 200 = true then 0 else 1) else ctE wd hg g T Z id
/-- The first places that a tower sees, or does not. -/
def seL (wd : Int) (g : List Int) (t : Tw) (rise : Int) (b : Bool) (m : Nat) : List Pl := (plN wd m).filter fun p => freeB g wd (t.x, t.y) t.h p rise == b
theorem seL_succ (wd : Int) (g : List Int) (t : Tw) (rise : Int) (b : Bool) (m : Nat) : seL wd g t rise b (m + 1) = seL wd g t rise b m ++ if (freeB g wd (t.x, t.y) t.h (plI wd m) rise == b) = true then [plI wd m] else [] := by
  unfold seL
  rw [plN_succ, List.filter_append]
  congr 1
  rw [List.filter_cons]
  split <;> rfl
theorem seL_len (wd : Int) (g : List Int) (t : Tw) (rise : Int) (b : Bool) (m : Nat) : (seL wd g t rise b m).length ≤ m := by
  unfold seL
  exact Nat.le_trans (List.length_filter_le _ _) (by rw [plN_len]; exact Nat.le_refl _)
end Go.Proofs.Ytnacgogcbbpjmaa

/-! Dead of package ridge. -/
set_option linter.unusedVariables false
set_option linter.unusedSimpArgs false
namespace Go.Proofs.Ytnacgogcbbpjmaa
open Go Go.RowKit

theorem plI_inj {wd : Int} {i j : Nat} (h : plI wd i = plI wd j) : i = j := by
  unfold plI at h
  have h1 := congrArg Prod.fst h
  have h2 := congrArg Prod.snd h
  simp only at h1 h2
  have e1 := Int.mul_ediv_add_emod (i : Int) wd
  have e2 := Int.mul_ediv_add_emod (j : Int) wd
  rw [h1, h2] at e1
  omega
/-- What a tower sees of the places behind the first ones. -/
def seD (wd : Int) (g : List Int) (t : Tw) (rise : Int) (n k : Nat) : List Pl := ((plN wd n).drop k).filter fun p => freeB g wd (t.x, t.y) t.h p rise == true
theorem seD_zero (wd : Int) (g : List Int) (t : Tw) (rise : Int) (n : Nat) : seD wd g t rise n 0 = seL wd g t rise true n := by unfold seD seL; rw [List.drop_zero]
theorem seD_step {wd : Int} {g : List Int} {t : Tw} {rise : Int} {n k : Nat} (h : k < n) : seD wd g t rise n k = (if freeB g wd (t.x, t.y) t.h (plI wd k) rise = true then [plI wd k] else []) ++ seD wd g t rise n (k + 1) := by
  unfold seD
  have hk : k < (plN wd n).length := by rw [plN_len]; exact h
  have e : (plN wd n)[k] = plI wd k := by
    have := plN_get (wd := wd) h
    rw [List.getD_eq_getElem?_getD, List.getElem?_eq_getElem hk] at this
    exact this
  rw [List.drop_eq_getElem_cons hk, e, List.filter_cons]
  by_cases q : freeB g wd (t.x, t.y) t.h (plI wd k) rise = true
  · rw [if_pos q, if_pos (by rw [q]; rfl)]; rfl
  · rw [if_neg q, if_neg (by simpa using q)]; rfl
theorem seD_ne {wd : Int} {g : List Int} {t : Tw} {rise : Int} {n k : Nat} {q : Pl} (hq : q ∈ seD wd g t rise n (k + 1)) : q ≠ plI wd k := by
  intro e
  unfold seD at hq
  have h1 := (List.mem_filter.1 hq).1
  obtain ⟨i, hi, hx⟩ := List.getElem_of_mem h1
  rw [List.getElem_drop] at hx
  have hl : k + 1 + i < n := by rw [List.length_drop, plN_len] at hi; omega
  have h2 := plN_get (wd := wd) hl
  rw [List.getD_eq_getElem?_getD, List.getElem?_eq_getElem (by rw [plN_len]; exact hl)] at h2
  simp only [Option.getD_some] at h2
  rw [h2, e] at hx
  have := plI_inj hx
  omega
theorem PlRow.tail {w : World} {b off n c : Nat} {p : Pl} {l : List Pl} (h : PlRow w (.slice (some ⟨b, off, none⟩) n c) (p :: l)) (a : Option Addr) (ha : c ≠ 1 → a = some ⟨b, off + 2, none⟩) : PlRow w (.slice a l.length (c - 1)) l := by
  rcases h with ⟨_, _, _, h⟩ | ⟨b', off', cap, hv, hp, h1, hc⟩
  · cases h
  · cases hv
    cases l with
    | nil => exact .inl ⟨_, _, rfl, rfl⟩
    | cons q l =>
      have hc1 : c ≠ 1 := by simp at hp; omega
      rw [ha hc1]
      refine .inr ⟨b, off + 2, c - 1, rfl, by simp at hp ⊢; omega, h1, fun i hi => ?_⟩
      have h2 := hc (i + 1) (by simpa using hi)
      rw [show off + (i + 1) * 2 = off + 2 + i * 2 by omega] at h2
      simpa [List.getD_eq_getElem?_getD] using h2
end Go.Proofs.Ytnacgogcbbpjmaa
