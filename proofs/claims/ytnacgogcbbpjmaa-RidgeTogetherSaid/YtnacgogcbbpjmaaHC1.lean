/- Links of package ridge. -/
import Derived.Test.YtnacgogcbbpjmaaHB9
import Derived.Test.YtnacgogcbbpjmaaHC0
import Derived.Test.YtnacgogcbbpjmaaHA9
set_option linter.unusedVariables false
set_option linter.unusedSimpArgs false
namespace Go.Proofs.Ytnacgogcbbpjmaa
open Go Go.RowKit
attribute [local go_sem] Oper.semAt_some

def okT (wd hg : Int) (t : Tw) : Prop := wiB t.id 1 1099511627776 = true ∧ onB wd hg (t.x, t.y) = true ∧ wiB t.h 0 200 = true
theorem twF_none {s : List Tw} {id : Int} (h : ¬ (twF s id).isSome = true) : ∀ t ∈ s, t.id ≠ id := fun t ht e => h (by
  unfold twF
  rw [List.find?_isSome]
  exact ⟨t, ht, by simpa using e⟩)
theorem tgE_ok {wd hg : Int} : ∀ {l s : List Tw}, tgE wd hg s l = 0 → (∀ t ∈ l, okT wd hg t) ∧ (l.map Tw.id).Nodup ∧ ∀ t ∈ l, ∀ u ∈ s, u.id ≠ t.id
  | [], s, _ => ⟨by simp, by simp, by simp⟩
  | t :: l, s, h => by
    unfold tgE at h
    split at h
    case isFalse => cases h
    case isTrue hq =>
      split at h
      case isTrue => cases h
      case isFalse hf =>
        obtain ⟨h1, h2, h3⟩ := tgE_ok h
        simp only [Bool.and_eq_true] at hq
        refine ⟨?_, ?_, ?_⟩
        · intro u hu
          rcases List.mem_cons.1 hu with rfl | hu
          · exact ⟨hq.1.1, hq.1.2, hq.2⟩
          · exact h1 u hu
        · rw [List.map_cons, List.nodup_cons]
          refine ⟨fun hm => ?_, h2⟩
          obtain ⟨u, hu, he⟩ := List.mem_map.1 hm
          exact h3 u hu t (by simp) he.symm
        · intro u hu v hv
          rcases List.mem_cons.1 hu with rfl | hu
          · exact twF_none hf v hv
          · exact h3 u hu v (by simp [hv])
theorem ckE_ok {wd hg : Int} {g : List Int} {T : List Tw} {H : List Hz} (h : ckE wd hg g T H = 0) : vmB wd hg g = true ∧ T.length ≤ 12 ∧ H.length ≤ 60 ∧ (∀ t ∈ T, okT wd hg t) ∧ (T.map Tw.id).Nodup ∧ hzB (-1) H = true := by
  unfold ckE at h
  split at h
  case isFalse => cases h
  case isTrue h1 =>
    split at h
    case isFalse => cases h
    case isTrue h2 =>
      split at h
      case isFalse h3 => exact absurd h h3
      case isTrue h3 =>
        split at h
        case isFalse => cases h
        case isTrue h4 =>
          obtain ⟨a, b, _⟩ := tgE_ok h3
          exact ⟨h1, h2.1, h2.2, a, b, h4⟩
/-- The towers of others that a tower sees. -/
def seenL (g : List Int) (wd : Int) (s : Tw) (l : List Tw) : List (Int × Int) := (l.filter fun t => freeB g wd (s.x, s.y) s.h (t.x, t.y) t.h).map fun t => (s.id, t.id)
def lkP (g : List Int) (wd : Int) : List Tw → List (Int × Int)
  | [] => []
  | s :: l => seenL g wd s l ++ lkP g wd l
def encI2 (p : Int × Int) : List Value := [.int .i64 p.1, .int .i64 p.2]
theorem seenL_cons (g : List Int) (wd : Int) (s t : Tw) (l : List Tw) : seenL g wd s (t :: l) = (if freeB g wd (s.x, s.y) s.h (t.x, t.y) t.h = true then [(s.id, t.id)] else []) ++ seenL g wd s l := by
  unfold seenL
  rw [List.filter_cons]
  split <;> rfl
theorem seenL_len (g : List Int) (wd : Int) (s : Tw) (l : List Tw) : (seenL g wd s l).length ≤ l.length := by
  unfold seenL; rw [List.length_map]; exact List.length_filter_le _ _
theorem ok_free {wd hg : Int} {s t : Tw} (hs : okT wd hg s) (ht : okT wd hg t) : onB wd hg (s.x, s.y) = true ∧ onB wd hg (t.x, t.y) = true ∧ (0 ≤ s.h ∧ s.h ≤ 200) ∧ 0 ≤ t.h ∧ t.h ≤ 200 := by
  have h1 := hs.2.2
  have h2 := ht.2.2
  unfold wiB at h1 h2
  simp only [Bool.and_eq_true, decide_eq_true_eq] at h1 h2
  exact ⟨hs.2.1, ht.2.1, h1, h2⟩
theorem info_i2 : (Try.prog.info? 72).map (fun i => (i.zero, i.size, i.bytes)) = some (some (.agg #[.int .i64 0, .int .i64 0]), 2, 16) := by kernel_rfl
theorem own_base {w : World} {b c : Nat} {e : TypeId} {size : Nat} {v : Value} {n : Nat} {xs : List Value} (h : w.ownsRow c e size v n xs) (hb : b ≤ c) : w.ownsRow b e size v n xs := by
  rcases h with ⟨h1, h2 | ⟨g, cap, cur, k1, k2, k3⟩⟩
  · exact ⟨h1, .inl h2⟩
  · exact ⟨h1, .inr ⟨g, cap, cur, k1, Nat.le_trans hb k2, k3⟩⟩
theorem own_ne {w : World} {b c : Nat} {e t : TypeId} {size : Nat} {v : Value} {n : Nat} {xs : List Value} {C : Array Value} {f : Nat × Nat} (h : w.ownsRow c e size v n xs) (hc : w.heap[b]? = some (.cells C t f)) (ht : t ≠ e) : some b ≠ v.ownBlock := by
  rcases h with ⟨h1, ⟨rfl, _⟩ | ⟨g, cap, cur, rfl, k2, k3, _⟩⟩
  · simp [Value.ownBlock]
  · intro q
    obtain rfl : b = g := by simpa [Value.ownBlock] using q
    rw [k3] at hc; cases hc; exact ht rfl
theorem own_below {w w' : World} {c : Nat} {e : TypeId} {size : Nat} {v : Value} {n : Nat} {xs : List Value} (h : w.ownsRow c e size v n xs) (hb : Below w.heap.size w w') : w'.ownsRow c e size v n xs := by
  rcases h with ⟨h1, h2 | ⟨g, cap, cur, k1, k2, k3, k4⟩⟩
  · exact ⟨h1, .inl h2⟩
  · exact ⟨h1, .inr ⟨g, cap, cur, k1, k2, (hb.block _ (Array.getElem?_eq_some_iff.1 k3).1).trans k3, k4⟩⟩
theorem wraps_small {j : Nat} (h : j ≤ 20) : wrap64 ((j : Int) + 1) = j + 1 ∧ IntKind.i64.wrap ((j : Int) + 1) = j + 1 := ⟨w64 (by omega), IntWalk.i64_in _ (by omega)⟩
set_option maxRecDepth 100000 in
set_option maxHeartbeats 8000000 in
theorem Links_any (wd hg : Int) (o tv hv : Value) (g : List Int) (T : List Tw) (H : List Hz) (w : World) (ho : INRow w o g) (hl : g.length ≤ 9223372036854775807) (ht : TwRow w tv T) (htl : T.length ≤ 9223372036854775807) (hh : HzRow w hv H) (hhl : H.length ≤ 9223372036854775807) :
    Calls Try.prog 22 #[coV wd hg o tv hv] w fun e w' => ∃ v', e = .returned (.tuple #[v', .int .i64 (ckE wd hg g T H)]) ∧ Below w.heap.size w w' ∧ (ckE wd hg g T H ≠ 0 → v' = .slice none 0 0) ∧
      (ckE wd hg g T H = 0 → ∃ L, Ord L T ∧ w'.ownsRow w.heap.size 72 2 v' (lkP g wd L).length ((lkP g wd L).flatMap encI2)) := by
  have HC1 := Lib.hid (fun w' (h : Below w.heap.size w w') => Check_any wd hg o tv hv g T H w' (ho.keep h) hl (ht.keep h) htl (hh.keep h) hhl)
  have HO := Lib.hid ho
  have HT := Lib.hid ht
  unfold coV at HC1
  unfold coV
  have HA : Hid (∀ W', Below (w.alloc (.cells #[.int .i64 wd, .int .i64 hg, o, tv, hv] 28)).heap.size (w.alloc (.cells #[.int .i64 wd, .int .i64 hg, o, tv, hv] 28)) W' → W'.heap[w.heap.size]? = some (.cells #[.int .i64 wd, .int .i64 hg, o, tv, hv] 28 (0, 0)) ∧ w.heap.size < W'.heap.size) := Lib.hid fun W' h => ⟨(h.block _ (by simp)).trans (heap_alloc_new _ _), Nat.lt_of_lt_of_le (by simp) h.size⟩
  have HB0 := Lib.hid ((Below.refl _ w).alloc (Nat.le_refl w.heap.size) (.cells #[.int .i64 wd, .int .i64 hg, o, tv, hv] 28))
  obtain ⟨W1, hW1⟩ : ∃ W1, w.alloc (.cells #[.int .i64 wd, .int .i64 hg, o, tv, hv] 28) = W1 := ⟨_, rfl⟩
  rw [hW1] at HA HB0
  have HW1 := Lib.hid hW1
  have HRD : Hid (∀ W', Below W1.heap.size W1 W' → W'.cell? ⟨w.heap.size, 0, none⟩ = some (.int .i64 wd) ∧ W'.cell? ⟨w.heap.size, 1, none⟩ = some (.int .i64 hg) ∧ W'.cell? ⟨w.heap.size, 2, none⟩ = some o ∧ W'.cell? ⟨w.heap.size, 3, none⟩ = some tv ∧ W'.cell? ⟨w.heap.size, 4, none⟩ = some hv ∧ w.heap.size < W'.heap.size) := Lib.hid (fun W' h => by
    obtain ⟨m0, h2⟩ := HA.out W' h
    exact ⟨cellH m0 0, cellH m0 1, cellH m0 2, cellH m0 3, cellH m0 4, h2⟩)
  clear hW1 ho ht hh hl htl hhl
  by_cases hE : ckE wd hg g T H = 0
  case neg =>
    obtain ⟨E, hEe⟩ : ∃ x, ckE wd hg g T H = x := ⟨_, rfl⟩
    rw [hEe] at hE HC1 ⊢
    have HE := Lib.hid hE
    have qe : (E != 0) = true := by simpa using hE
    clear hE hEe
    go_enter Try.func22, Try.ntmps22
    go_wp2_with fail
    rw [HW1.out]
    obtain ⟨q0, q1, q2, q3, q4, hw1⟩ := HRD.out W1 (Below.refl _ _)
    go_wp2_with fail
    refine (HC1.out _ HB0.out).mono ?_
    rintro e w2 ⟨rfl, hb2⟩
    have HB2 := Lib.hid (HB0.out.trans (hb2.mono HB0.out.size))
    clear hb2 q0 q1 q2 q3 q4
    go_wp2_with fail
    go_ret2
    exact ⟨_, rfl, HB2.out, fun _ => rfl, fun h => absurd h HE.out⟩
  rw [hE] at HC1 ⊢
  obtain ⟨hm, hn, _, hok, hnd, _⟩ := ckE_ok hE
  have HM := Lib.hid hm
  have HOK := Lib.hid hok
  have HOR := Lib.hid (fun w' (h : Below w.heap.size w w') => ordered_any tv T w' (HT.out.keep h) hn hnd)
  clear hE hm hok hnd
  go_enter Try.func22, Try.ntmps22
  go_wp2_with fail
  rw [HW1.out]
  obtain ⟨q0, q1, q2, q3, q4, hw1⟩ := HRD.out W1 (Below.refl _ _)
  go_wp2_with fail
  refine (HC1.out _ HB0.out).mono ?_
  rintro e w2 ⟨rfl, hb2⟩
  have HD2 := Lib.hid hb2
  have HB2 := Lib.hid (HB0.out.trans (hb2.mono HB0.out.size))
  clear q0 q1 q2 q3 q4 hw1
  obtain ⟨q0, q1, q2, q3, q4, hw1⟩ := HRD.out w2 hb2
  clear hb2
  go_wp2_with fail
  refine (HOR.out _ HB2.out).mono ?_
  rintro e w3 ⟨v3, L, rfl, hL, hO, hb3⟩
  have HD3 := Lib.hid (HD2.out.trans (hb3.mono HD2.out.size))
  have HB3 := Lib.hid (HB2.out.trans (hb3.mono HB2.out.size))
  have HORD := Lib.hid hO
  have hLl : L.length ≤ 12 := by rw [hO.1.length_eq]; exact hn
  have HOKL : Hid (∀ t ∈ L, okT wd hg t) := Lib.hid fun t h => HOK.out t (hO.1.mem_iff.1 h)
  have HLR := Lib.hid hL
  obtain ⟨la, lcap, rfl, hlc⟩ := hL.form
  have HLC := Lib.hid hlc
  clear hb3 hO hn hL hlc q0 q1 q2 q3 q4 hw1
  obtain ⟨i0, hi0, hz0, hz1, hz2⟩ := info_parts info_i2
  go_wp2_with fail
  go_loopw [6, 21] (fun v i wr => ∃ (k : Nat) (ps : List (Int × Int)), k ≤ L.length ∧ i = .int .i64 k ∧ Hid (lkP g wd L = ps ++ lkP g wd (L.drop k)) ∧ Hid (ps.length ≤ 12 * k) ∧ Hid (Below w3.heap.size w3 wr) ∧ Hid (wr.ownsRow w3.heap.size 72 2 v ps.length (ps.flatMap encI2))) (fun _ i _ => L.length - (intOf i).toNat)
  case atStart => exact ⟨0, [], Nat.zero_le _, rfl, Lib.hid rfl, Lib.hid (by simp), Lib.hid (Below.refl _ _), Lib.hid (World.ownsRow_nil _ _ _ _)⟩
  case round =>
    obtain ⟨k, ps, hk, rfl, hT, hP, hB, hO⟩ := hrel
    by_cases hkl : k < L.length
    · obtain ⟨b, off, rfl, hb, c0, c1, c2, c3⟩ := HLC.out k hkl
      have hki : (k : Int) < L.length := by omega
      have hk0 : (0 : Int) ≤ k := by omega
      have e0 := (hB.out.cell (p := ⟨b, _, none⟩) hb).trans c0
      have e1 := (hB.out.cell (p := ⟨b, _, none⟩) hb).trans c1
      have e2 := (hB.out.cell (p := ⟨b, _, none⟩) hb).trans c2
      have e3 := (hB.out.cell (p := ⟨b, _, none⟩) hb).trans c3
      have hcp := HLR.out.room (by omega)
      have hT' : Hid (lkP g wd L = ps ++ (seenL g wd (L.getD k .nil) (L.drop (k + 1)) ++ lkP g wd (L.drop (k + 1)))) := Lib.hid (by
        rw [hT.out, tdrop_at hkl]; rfl)
      have HOKs : Hid (okT wd hg (L.getD k .nil)) := Lib.hid (HOKL.out _ (by rw [List.getD_eq_getElem?_getD, List.getElem?_eq_getElem hkl]; exact List.getElem_mem _))
      obtain ⟨⟨ti, tx, ty, th⟩, hx⟩ : ∃ x, L.getD k .nil = x := ⟨_, rfl⟩
      rw [hx] at e0 e1 e2 e3 hT' HOKs
      simp only at e0 e1 e2 e3
      have w1 : wrap64 ((k : Int) + 1) = k + 1 := w64 (by omega)
      have w2' : IntKind.i64.wrap ((k : Int) + 1) = k + 1 := IntWalk.i64_in _ (by omega)
      have hkn : k + 1 ≤ L.length := hkl
      have HYB := Lib.hid (hB.out.alloc hB.out.size (.cells #[.int .i64 ti, .int .i64 tx, .int .i64 ty, .int .i64 th] 48))
      have HYR : Hid ((wr.alloc (.cells #[.int .i64 ti, .int .i64 tx, .int .i64 ty, .int .i64 th] 48)).heap[wr.heap.size]? = some (.cells #[.int .i64 ti, .int .i64 tx, .int .i64 ty, .int .i64 th] 48 (0, 0))) := Lib.hid (heap_alloc_new _ _)
      have HYO := Lib.hid (hO.out.alloc (.cells #[.int .i64 ti, .int .i64 tx, .int .i64 ty, .int .i64 th] 48))
      obtain ⟨Y, hY⟩ : ∃ Y, wr.alloc (.cells #[.int .i64 ti, .int .i64 tx, .int .i64 ty, .int .i64 th] 48) = Y := ⟨_, rfl⟩
      rw [hY] at HYB HYR HYO
      have HY := Lib.hid hY
      clear c0 c1 c2 c3 hT hx hY hb
      by_cases hcl : lcap = k + 1
      · have hL1 : L.length = k + 1 := by omega
        have HN : Hid (lkP g wd L = ps ++ lkP g wd (L.drop (k + 1))) := Lib.hid (by
          rw [hT'.out, List.drop_eq_nil_of_le (by omega)]; rfl)
        subst hcl
        have hz : L.length - (k + 1) = 0 := by omega
        go_wp2_with fail
        rw [HY.out]
        refine wp_loop_rounds 1 ?_
        rw [rounds_succ]
        go_wp2_with fail
        go_roundw
        case rel => exact ⟨k + 1, ps, by omega, by go_num, HN, Lib.hid (by have := hP.out; omega), HYB, HYO⟩
        case measure => simp [intOf]; omega
      · go_wp2_with fail
        rw [HY.out]
        obtain ⟨m, hmm⟩ : ∃ m, L.length - (k + 1) = m := ⟨_, rfl⟩
        have hLm : L.length = k + 1 + m := by omega
        rw [hmm]
        clear e0 e1 e2 e3 hmm
        have hmb : m ≤ 11 := by omega
        obtain ⟨s8, hs8⟩ : ∃ s, wr.heap.size = s := ⟨_, rfl⟩
        rw [hs8] at HYR ⊢
        have HWW := Lib.hid (And.intro w1 w2')
        clear hs8 HY hB hO w1 w2'
        go_loopw [6, 31] (fun v j wQ => ∃ (jn : Nat) (qs : List (Int × Int)), jn ≤ m ∧ j = .int .i64 jn ∧ Hid (lkP g wd L = qs ++ (seenL g wd ⟨ti, tx, ty, th⟩ (L.drop (k + 1 + jn)) ++ lkP g wd (L.drop (k + 1)))) ∧ Hid (qs.length ≤ 12 * k + jn) ∧ Hid (Below w3.heap.size w3 wQ) ∧ Hid (wQ.ownsRow w3.heap.size 72 2 v qs.length (qs.flatMap encI2)) ∧ Hid (wQ.heap[s8]? = some (.cells #[.int .i64 ti, .int .i64 tx, .int .i64 ty, .int .i64 th] 48 (0, 0)))) (fun _ j _ => m - (intOf j).toNat)
        case atStart => exact ⟨0, ps, Nat.zero_le _, rfl, Lib.hid hT'.out, Lib.hid (by have := hP.out; omega), HYB, HYO, HYR⟩
        case round =>
          obtain ⟨jn, qs, hjn, rfl, hT2, hP2, hB2, hO2, hS2⟩ := hrel
          by_cases hjl : jn < m
          · obtain ⟨b', off', hbo, hb', c0, c1, c2, c3⟩ := HLC.out (k + 1 + jn) (by omega)
            cases hbo
            have hji : (jn : Int) < m := by omega
            have hj0 : (0 : Int) ≤ jn := by omega
            have ead : off + (k + 1) * 4 + jn * 4 = off + (k + 1 + jn) * 4 := by omega
            have e0 := (hB2.out.cell (p := ⟨b, _, none⟩) hb').trans c0
            have e1 := (hB2.out.cell (p := ⟨b, _, none⟩) hb').trans c1
            have e2 := (hB2.out.cell (p := ⟨b, _, none⟩) hb').trans c2
            have e3 := (hB2.out.cell (p := ⟨b, _, none⟩) hb').trans c3
            rw [← ead] at e0 e1 e2 e3
            have hT3 : Hid (lkP g wd L = qs ++ (((if freeB g wd (tx, ty) th ((L.getD (k + 1 + jn) .nil).x, (L.getD (k + 1 + jn) .nil).y) (L.getD (k + 1 + jn) .nil).h = true then [(ti, (L.getD (k + 1 + jn) .nil).id)] else []) ++ seenL g wd ⟨ti, tx, ty, th⟩ (L.drop (k + 1 + (jn + 1)))) ++ lkP g wd (L.drop (k + 1)))) := Lib.hid (by
              have h9 := hT2.out; rw [tdrop_at (show k + 1 + jn < L.length by omega), seenL_cons] at h9; exact h9)
            have HOKt : Hid (okT wd hg (L.getD (k + 1 + jn) .nil)) := Lib.hid (HOKL.out _ (by rw [List.getD_eq_getElem?_getD, List.getElem?_eq_getElem (show k + 1 + jn < L.length by omega)]; exact List.getElem_mem _))
            obtain ⟨⟨ui, ux, uy, uh⟩, hx⟩ : ∃ x, L.getD (k + 1 + jn) .nil = x := ⟨_, rfl⟩
            rw [hx] at e0 e1 e2 e3 hT3 HOKt
            simp only at e0 e1 e2 e3 hT3
            obtain ⟨w4', w5'⟩ := wraps_small (show jn ≤ 20 from Nat.le_trans (Nat.le_of_lt hjl) (Nat.le_trans hmb (by decide)))
            have HZB := Lib.hid (hB2.out.alloc hB2.out.size (.cells #[.int .i64 ui, .int .i64 ux, .int .i64 uy, .int .i64 uh] 48))
            have HZR : Hid ((wr.alloc (.cells #[.int .i64 ui, .int .i64 ux, .int .i64 uy, .int .i64 uh] 48)).heap[wr.heap.size]? = some (.cells #[.int .i64 ui, .int .i64 ux, .int .i64 uy, .int .i64 uh] 48 (0, 0))) := Lib.hid (heap_alloc_new _ _)
            have HZO := Lib.hid (hO2.out.alloc (.cells #[.int .i64 ui, .int .i64 ux, .int .i64 uy, .int .i64 uh] 48))
            have HZS := Lib.hid ((gNe wr (.cells #[.int .i64 ui, .int .i64 ux, .int .i64 uy, .int .i64 uh] 48) s8 (Nat.ne_of_lt (Array.getElem?_eq_some_iff.1 hS2.out).1)).trans hS2.out)
            obtain ⟨Z, hZ⟩ : ∃ Z, wr.alloc (.cells #[.int .i64 ui, .int .i64 ux, .int .i64 uy, .int .i64 uh] 48) = Z := ⟨_, rfl⟩
            rw [hZ] at HZB HZR HZO HZS
            have HZ := Lib.hid hZ
            clear c0 c1 c2 c3 hT2 hx hZ hb' ead
            obtain ⟨q0, q1, q2, q3, q4, hw2⟩ := HRD.out wr (HD3.out.trans (hB2.out.mono HD3.out.size))
            have hs2 := hS2.out
            have hs2l := (Array.getElem?_eq_some_iff.1 hs2).1
            have s0 := cellH hs2 0
            have s1 := cellH hs2 1
            have s2 := cellH hs2 2
            have s3 := cellH hs2 3
            simp at s0 s1 s2 s3
            have hw2n : w.heap.size ≠ wr.heap.size := by omega
            have hs2n : s8 ≠ wr.heap.size := by omega
            obtain ⟨f1, f2, f3, f4⟩ := ok_free HOKs.out HOKt.out
            have HFR := Lib.hid (free_any wd hg o g (tx, ty) (ux, uy) th uh Z (HO.out.keep (HB3.out.trans (HZB.out.mono HB3.out.size))) HM.out f1 f2 f3 f4)
            unfold mpV plV at HFR
            simp only at HFR
            obtain ⟨fb, hfb⟩ : ∃ x, freeB g wd (tx, ty) th (ux, uy) uh = x := ⟨_, rfl⟩
            rw [hfb] at HFR hT3
            have hql : qs.length ≤ 144 := by have := hP2.out; omega
            clear hs2 hcl hLm hkn f1 f2 f3 f4 hfb
            go_wp2_with fail
            rw [HZ.out]
            refine HFR.out.mono ?_
            rintro e w5 ⟨rfl, hb5⟩
            have HB5 := Lib.hid (HZB.out.trans (hb5.mono HZB.out.size))
            have hO5 := own_below HZO.out hb5
            have HS5 := Lib.hid ((hb5.block _ (Array.getElem?_eq_some_iff.1 HZS.out).1).trans HZS.out)
            have HR5 := Lib.hid ((hb5.block _ (Array.getElem?_eq_some_iff.1 HZR.out).1).trans HZR.out)
            clear q0 q1 q2 q3 q4 s0 s1 s2 s3 e0 e1 e2 e3 hb5 hw2 hw2n hs2n hs2l
            cases fb
            · have HN : Hid (lkP g wd L = qs ++ (seenL g wd ⟨ti, tx, ty, th⟩ (L.drop (k + 1 + (jn + 1))) ++ lkP g wd (L.drop (k + 1)))) := Lib.hid hT3.out
              have HO5 := Lib.hid hO5
              clear hO5
              go_wp2_with fail
              go_roundw
              case rel => exact ⟨jn + 1, qs, hjl, by go_num, HN, Lib.hid (by have := hP2.out; omega), HB5, HO5, HS5⟩
              case measure => simp [intOf]; omega
            · have HN : Hid (lkP g wd L = (qs ++ [(ti, ui)]) ++ (seenL g wd ⟨ti, tx, ty, th⟩ (L.drop (k + 1 + (jn + 1))) ++ lkP g wd (L.drop (k + 1)))) := Lib.hid (by
                rw [hT3.out, if_pos rfl]; simp [List.append_assoc])
              have s0 := cellH HS5.out 0
              have s0' := cellH HR5.out 0
              simp at s0 s0'
              have h63 : qs.length + 1 ≤ maxLen := by unfold maxLen; omega
              have hby : (qs.length + 1) * 16 ≤ 140737488355328 := by omega
              have hbase : w3.heap.size ≤ w5.heap.size := HB5.out.size
              have HON := Lib.hid (own_ne (hO5.alloc (.cells #[.int .i64 ti, .int .i64 ui] 72)) ((gNe w5 (.cells #[.int .i64 ti, .int .i64 ui] 72) s8 (Nat.ne_of_lt (Array.getElem?_eq_some_iff.1 HS5.out).1)).trans HS5.out) (by decide))
              have HS5' := Lib.hid ((gNe w5 (.cells #[.int .i64 ti, .int .i64 ui] 72) s8 (Nat.ne_of_lt (Array.getElem?_eq_some_iff.1 HS5.out).1)).trans HS5.out)
              go_wp2_with (at_builtin; refine wpList_append_own _ rfl _ _ 65 rfl w3.heap.size 72 i0 (.agg #[.int .i64 0, .int .i64 0]) 2 16 Try.underlying65 hi0 hz0 hz1 hz2 rfl (by decide) _ _ _ rfl (World.ownsRow.alloc hO5 _) ⟨w5.heap.size, 0, none⟩ 1 1 [.int .i64 ti, .int .i64 ui] rfl rfl (fun j u h => cell_two' _ _ _ _ j u h) (by simp [Value.oneCell']) h63 hby (by simp; omega) ?_; intro v' w6 hown' hgrow _)
              have HB6 : Hid (Below w3.heap.size w3 w6) := Lib.hid ((HB5.out.alloc hbase _).grown hgrow (by simp; omega) (fun j e => (World.ownsRow.lt hO5 j e).1))
              have HO6 : Hid (w6.ownsRow w3.heap.size 72 2 v' (qs ++ [(ti, ui)]).length ((qs ++ [(ti, ui)]).flatMap encI2)) := Lib.hid (by
                rw [List.length_append, List.flatMap_append]; exact hown')
              have HS6 := Lib.hid ((hgrow.block s8 (Array.getElem?_eq_some_iff.1 HS5'.out).1 HON.out).trans HS5'.out)
              clear hown' hgrow hO5 s0 s0'
              go_wp2_with fail
              go_roundw
              case rel => exact ⟨jn + 1, qs ++ [(ti, ui)], hjl, by go_num, HN, Lib.hid (by have := hP2.out; simp only [List.length_append, List.length_cons, List.length_nil]; omega), HB6, HO6, HS6⟩
              case measure => simp [intOf]; omega
          · obtain rfl : jn = m := by omega
            have HN : Hid (lkP g wd L = qs ++ lkP g wd (L.drop (k + 1))) := Lib.hid (by
              rw [hT2.out, List.drop_eq_nil_of_le (show L.length ≤ k + 1 + jn by omega)]; rfl)
            obtain ⟨w1, w2'⟩ := HWW.out
            go_wp2_with fail
            go_roundw
            case rel => exact ⟨k + 1, qs, by omega, by go_num, HN, Lib.hid (by have := hP2.out; omega), hB2, hO2⟩
            case measure => simp [intOf]; omega
    · obtain rfl : k = L.length := by omega
      have HN : Hid (lkP g wd L = ps) := Lib.hid (by rw [hT.out, List.drop_length]; simp [lkP])
      have HBW := Lib.hid (HB3.out.trans (hB.out.mono HB3.out.size))
      go_wp2_with fail
      go_ret2
      refine ⟨_, rfl, HBW.out, fun h => absurd rfl h, fun _ => ⟨L, HORD.out, ?_⟩⟩
      rw [HN.out]
      exact own_base hO.out HB3.out.size
end Go.Proofs.Ytnacgogcbbpjmaa
