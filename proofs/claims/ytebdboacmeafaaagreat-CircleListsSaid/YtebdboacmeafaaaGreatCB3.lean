/- Package circle: allowed, Alone; what follows from Check. -/
import Derived.Test.YtebdboacmeafaaaGreatCB2
import Derived.Test.YtebdboacmeafaaaGreatCAB
set_option linter.unusedVariables false
set_option linter.unusedSimpArgs false
namespace Go.Proofs.YtebdboacmeafaaaGreat
open Go Go.RowKit

/-! What right circles are. -/
structure CkOk (cs : List Ci) (k : Ck) (z : Ci) : Prop where
  id : 1 ≤ k.id ∧ k.id ≤ 1099511627776
  at' : (0 ≤ k.x ∧ k.x ≤ 48) ∧ 0 ≤ k.y ∧ k.y ≤ 48
  s : 0 ≤ k.s ∧ k.s ≤ 3599
  sl : 1 ≤ k.sl ∧ k.sl ≤ 100
  of : ciF cs k.c = some z
  ne : (k.x == z.x && k.y == z.y) = false
  t : z.f ≤ k.t ∧ k.t ≤ z.t
theorem ceK_ok {cs : List Ci} {k : Ck} (h : ceK cs k = 0) : ∃ z, CkOk cs k z := by
  unfold ceK at h
  split at h
  · rename_i h1
    rw [Bool.and_eq_true, Bool.and_eq_true, Bool.and_eq_true, ci_iff, om_iff, ci_iff, ci_iff] at h1
    cases h2 : ciF cs k.c with
    | none => rw [h2] at h; simp at h
    | some z =>
      rw [h2] at h
      simp only at h
      split at h
      · cases h
      · rename_i h3
        rw [Bool.not_eq_true, Bool.or_eq_false_iff, Bool.not_eq_false', ci_iff] at h3
        exact ⟨z, h1.1.1.1, h1.1.1.2, h1.1.2, h1.2, h2, h3.1, h3.2⟩
  · cases h
theorem ciE_ok {l : List Ci} : ∀ {n : Nat}, ciE l n = 0 → ∀ k, k < n → (l.getD k .nil).ok = true ∧ (ciF (l.take k) (l.getD k .nil).id) = none
  | 0, _, k, hk => by omega
  | n + 1, h, k, hk => by
    have h0 : ciE l n = 0 := by
      rcases Decidable.em (ciE l n = 0) with h0 | h0
      · exact h0
      · have h2 : ciE l (n + 1) = ciE l n := ciE_keep h0 (n + 1) (by omega)
        rw [h2] at h; exact absurd h h0
    rcases Nat.lt_or_ge k n with h1 | h1
    · exact ciE_ok h0 k h1
    · obtain rfl : k = n := by omega
      have h2 : (if (l.getD k .nil).ok then (if (ciF (l.take k) (l.getD k .nil).id).isSome then (6 : Int) else 0) else 1) = 0 := by
        have h3 : ciE l (k + 1) = (if ciE l k = 0 then (if (l.getD k .nil).ok then (if (ciF (l.take k) (l.getD k .nil).id).isSome then 6 else 0) else 1) else ciE l k) := rfl
        rw [h3, if_pos h0] at h; exact h
      cases h4 : (l.getD k .nil).ok with
      | false => rw [h4] at h2; simp at h2
      | true =>
        rw [h4] at h2
        cases h5 : ciF (l.take k) (l.getD k .nil).id with
        | none => exact ⟨rfl, rfl⟩
        | some z => rw [h5] at h2; simp at h2
theorem ckE_ok {cs : List Ci} {l : List Ck} : ∀ {n : Nat}, ckE cs l n = 0 → ∀ k, k < n → ceK cs (l.getD k .nil) = 0 ∧ (ckF (l.take k) (l.getD k .nil).id) = none
  | 0, _, k, hk => by omega
  | n + 1, h, k, hk => by
    have h0 : ckE cs l n = 0 := by
      rcases Decidable.em (ckE cs l n = 0) with h0 | h0
      · exact h0
      · have h2 : ckE cs l (n + 1) = ckE cs l n := ckE_keep h0 (n + 1) (by omega)
        rw [h2] at h; exact absurd h h0
    rcases Nat.lt_or_ge k n with h1 | h1
    · exact ckE_ok h0 k h1
    · obtain rfl : k = n := by omega
      have h2 : (if ceK cs (l.getD k .nil) = 0 then (if (ckF (l.take k) (l.getD k .nil).id).isSome then (6 : Int) else 0) else ceK cs (l.getD k .nil)) = 0 := by
        have h3 : ckE cs l (k + 1) = (if ckE cs l k = 0 then (if ceK cs (l.getD k .nil) = 0 then (if (ckF (l.take k) (l.getD k .nil).id).isSome then 6 else 0) else ceK cs (l.getD k .nil)) else ckE cs l k) := rfl
        rw [h3, if_pos h0] at h; exact h
      rcases Decidable.em (ceK cs (l.getD k .nil) = 0) with h4 | h4
      · rw [if_pos h4] at h2
        cases h5 : ckF (l.take k) (l.getD k .nil).id with
        | none => exact ⟨h4, rfl⟩
        | some z => rw [h5] at h2; simp at h2
      · rw [if_neg h4] at h2; exact absurd h2 h4
/-- Circles are right. -/
structure CcOk (cs : List Ci) (ks : List Ck) : Prop where
  n : cs.length ≤ 12
  m : ks.length ≤ 60
  ci : ∀ k, k < cs.length → (cs.getD k .nil).ok = true ∧ (ciF (cs.take k) (cs.getD k .nil).id) = none
  ck : ∀ k, k < ks.length → (∃ z, CkOk cs (ks.getD k .nil) z) ∧ (ckF (ks.take k) (ks.getD k .nil).id) = none
theorem ccE_ok {cs : List Ci} {ks : List Ck} (h : ccE cs ks = 0) : CcOk cs ks := by
  unfold ccE at h
  split at h
  · cases h
  · rename_i h1
    rw [Bool.not_eq_true, Bool.or_eq_false_iff, decide_eq_false_iff_not, decide_eq_false_iff_not] at h1
    split at h
    · rename_i h2
      exact ⟨by omega, by omega, ciE_ok h2, fun k hk => ⟨ceK_ok (ckE_ok h k hk).1, (ckE_ok h k hk).2⟩⟩
    · rename_i h2; exact absurd h h2
theorem ckF_mem {l : List Ck} {id : Int} {k : Ck} (h : ckF l id = some k) : ∃ j, j < l.length ∧ l.getD j .nil = k ∧ k.id = id := by
  unfold ckF at h
  rw [List.find?_eq_some_iff_getElem] at h
  obtain ⟨h1, j, hj, h2, _⟩ := h
  exact ⟨j, hj, by rw [List.getD_eq_getElem?_getD, List.getElem?_eq_getElem hj]; exact h2, by simpa using h1⟩
theorem ciF_mem {l : List Ci} {id : Int} {k : Ci} (h : ciF l id = some k) : ∃ j, j < l.length ∧ l.getD j .nil = k ∧ k.id = id := by
  unfold ciF at h
  rw [List.find?_eq_some_iff_getElem] at h
  obtain ⟨h1, j, hj, h2, _⟩ := h
  exact ⟨j, hj, by rw [List.getD_eq_getElem?_getD, List.getElem?_eq_getElem hj]; exact h2, by simpa using h1⟩

/-! allowed. -/
def alM (x y : Int) (k : Ck) : Int := (k.s - k.sl - brDn x y k.x k.y + 1800) % 3600 - 1800
def alL (x y : Int) (k : Ck) : Int := max (alM x y k) (-300)
def alH (x y : Int) (k : Ck) : Int := min (alM x y k + 2 * k.sl - (brUp x y k.x k.y - brDn x y k.x k.y)) 300
/-- A check allows some zeros. -/
def alB (x y : Int) (k : Ck) : Bool := decide (alL x y k ≤ alH x y k)
theorem info_sp2 : (Tryz.prog.info? 36).map (·.size) = some 2 := by kernel_rfl
set_option maxRecDepth 100000 in
set_option maxHeartbeats 4000000 in
theorem allowed_any (zx zy : Int) (k : Ck) (w : World) (hs : 0 ≤ k.s ∧ k.s ≤ 3599) (hsl : 1 ≤ k.sl ∧ k.sl ≤ 100) :
    Calls Tryz.prog 86 #[.agg #[.int .i64 zx, .int .i64 zy], k.val] w fun e w' => e = .returned (.tuple #[.agg #[.int .i64 (if alB zx zy k = true then alL zx zy k else 0), .int .i64 (if alB zx zy k = true then alH zx zy k else 0)], .bool (alB zx zy k)]) ∧ Below w.heap.size w w' := by
  obtain ⟨id, c, t, x, y, s, sl⟩ := k
  simp only at hs hsl
  have H1 := Lib.hid (fun w' => bearingOf_any zx zy x y w')
  have hbd := br_bd zx zy x y
  have HM : Hid (alM zx zy ⟨id, c, t, x, y, s, sl⟩ = (s - sl - brDn zx zy x y + 1800) % 3600 - 1800) := Lib.hid rfl
  have HL : Hid (alL zx zy ⟨id, c, t, x, y, s, sl⟩ = max (alM zx zy ⟨id, c, t, x, y, s, sl⟩) (-300)) := Lib.hid rfl
  have HH : Hid (alH zx zy ⟨id, c, t, x, y, s, sl⟩ = min (alM zx zy ⟨id, c, t, x, y, s, sl⟩ + 2 * sl - (brUp zx zy x y - brDn zx zy x y)) 300) := Lib.hid rfl
  have HB : Hid (alB zx zy ⟨id, c, t, x, y, s, sl⟩ = decide (alL zx zy ⟨id, c, t, x, y, s, sl⟩ ≤ alH zx zy ⟨id, c, t, x, y, s, sl⟩)) := Lib.hid rfl
  obtain ⟨dn, hdn⟩ : ∃ z, brDn zx zy x y = z := ⟨_, rfl⟩
  obtain ⟨up, hup⟩ : ∃ z, brUp zx zy x y = z := ⟨_, rfl⟩
  obtain ⟨ok, hok⟩ : ∃ z, brB zx zy x y = z := ⟨_, rfl⟩
  obtain ⟨M, hM⟩ : ∃ z, alM zx zy ⟨id, c, t, x, y, s, sl⟩ = z := ⟨_, rfl⟩
  obtain ⟨L, hL⟩ : ∃ z, alL zx zy ⟨id, c, t, x, y, s, sl⟩ = z := ⟨_, rfl⟩
  obtain ⟨Q, hQ⟩ : ∃ z, alH zx zy ⟨id, c, t, x, y, s, sl⟩ = z := ⟨_, rfl⟩
  obtain ⟨B, hB⟩ : ∃ z, alB zx zy ⟨id, c, t, x, y, s, sl⟩ = z := ⟨_, rfl⟩
  rw [hdn, hup, hok] at H1
  rw [hdn, hup] at hbd
  rw [hdn, hM] at HM
  rw [hM, hL] at HL
  rw [hM, hQ, hdn, hup] at HH
  rw [hL, hQ, hB] at HB
  rw [hL, hQ, hB]
  obtain ⟨F1, hF1⟩ : ∃ z, (if B = true then L else 0) = z := ⟨_, rfl⟩
  obtain ⟨F2, hF2⟩ : ∃ z, (if B = true then Q else 0) = z := ⟨_, rfl⟩
  rw [hF1, hF2]
  have HF := Lib.hid (show (if B = true then L else 0) = F1 ∧ (if B = true then Q else 0) = F2 from ⟨hF1, hF2⟩)
  have e1 : IntKind.i64.wrap (s - sl) = s - sl := IntWalk.i64_in _ (by omega)
  have e2 : IntKind.i64.wrap (s - sl - dn) = s - sl - dn := IntWalk.i64_in _ (by omega)
  have e3 : IntKind.i64.wrap (s - sl - dn + 1800) = s - sl - dn + 1800 := IntWalk.i64_in _ (by omega)
  have HT := Lib.hid (fun w' => qturn_any (s - sl - dn + 1800) w')
  obtain ⟨tu, htu⟩ : ∃ z, (s - sl - dn + 1800) % 3600 = z := ⟨_, rfl⟩
  have htb : 0 ≤ tu ∧ tu < 3600 := by omega
  rw [htu] at HT HM
  have e4 : tu - 1800 = M := HM.out.symm
  have e5 : IntKind.i64.wrap M = M := IntWalk.i64_in _ (by omega)
  have e6 : IntKind.i64.wrap (2 * sl) = 2 * sl := IntWalk.i64_in _ (by omega)
  have e7 : IntKind.i64.wrap (M + 2 * sl) = M + 2 * sl := IntWalk.i64_in _ (by omega)
  have e8 : IntKind.i64.wrap (up - dn) = up - dn := IntWalk.i64_in _ (by omega)
  obtain ⟨N, hN⟩ : ∃ z, M + 2 * sl - (up - dn) = z := ⟨_, rfl⟩
  have e9 : IntKind.i64.wrap N = N := IntWalk.i64_in _ (by omega)
  rw [hN] at HH
  have HMXe : maxL M [-300] = L := HL.out.symm
  have HMNe : minL N [300] = Q := HH.out.symm
  have HMX : Hid (∀ w' A, w'.heap[A]? = some (.cells #[.int .i64 (-300)] 3 (0, 0)) → Calls Tryz.prog 76 #[.int .i64 M, .slice (some ⟨A, 0, none⟩) 1 1] w' fun e w'' => e = .returned (.int .i64 L) ∧ w'' = w') := Lib.hid (fun w' A hA => by
    have h := greatest_any M _ [-300] w' (row_one (-300) hA) (by simp)
    rwa [HMXe] at h)
  have HMN : Hid (∀ w' A, w'.heap[A]? = some (.cells #[.int .i64 300] 3 (0, 0)) → Calls Tryz.prog 114 #[.int .i64 N, .slice (some ⟨A, 0, none⟩) 1 1] w' fun e w'' => e = .returned (.int .i64 Q) ∧ w'' = w') := Lib.hid (fun w' A hA => by
    have h := least_any N _ [300] w' (row_one 300 hA) (by simp)
    rwa [HMNe] at h)
  clear HMXe HMNe htb htu hbd hdn hup hok hM hL hQ hB hF1 hF2 hs hsl
  have HA := Lib.hid (fun W' => cells3 w #[.int .i64 zx, .int .i64 zy] #[.int .i64 id, .int .i64 c, .int .i64 t, .int .i64 x, .int .i64 y, .int .i64 s, .int .i64 sl] #[.int .i64 0, .int .i64 0] 65 67 36 (W := W'))
  have HB0 := Lib.hid (Below.refl (((w.alloc (.cells #[.int .i64 zx, .int .i64 zy] 65)).alloc (.cells #[.int .i64 id, .int .i64 c, .int .i64 t, .int .i64 x, .int .i64 y, .int .i64 s, .int .i64 sl] 67)).alloc (.cells #[.int .i64 0, .int .i64 0] 36)).heap.size (((w.alloc (.cells #[.int .i64 zx, .int .i64 zy] 65)).alloc (.cells #[.int .i64 id, .int .i64 c, .int .i64 t, .int .i64 x, .int .i64 y, .int .i64 s, .int .i64 sl] 67)).alloc (.cells #[.int .i64 0, .int .i64 0] 36)))
  obtain ⟨Z, hZ⟩ : ∃ Z, (((w.alloc (.cells #[.int .i64 zx, .int .i64 zy] 65)).alloc (.cells #[.int .i64 id, .int .i64 c, .int .i64 t, .int .i64 x, .int .i64 y, .int .i64 s, .int .i64 sl] 67)).alloc (.cells #[.int .i64 0, .int .i64 0] 36)) = Z := ⟨_, rfl⟩
  rw [hZ] at HA HB0
  have HZ := Lib.hid hZ
  clear hZ
  go_enter Tryz.func86, Tryz.ntmps86
  go_wp2_with fail
  rw [HZ.out]
  refine (H1.out Z).mono ?_
  rintro e w1 ⟨rfl, hb⟩
  have hY := cells1 w1 #[.int .i64 dn, .int .i64 up] 155 (Below.refl _ _)
  have HBY := Lib.hid (HB0.out.trans (hb.trans (hY.2.2.mono hb.size)))
  have HQY := Lib.hid hY.1
  obtain ⟨yb, hyb⟩ : ∃ y, w1.heap.size = y := ⟨_, rfl⟩
  rw [hyb] at HQY
  obtain ⟨Y, hYY⟩ : ∃ Y, w1.alloc (.cells #[.int .i64 dn, .int .i64 up] 155) = Y := ⟨_, rfl⟩
  rw [hYY] at HBY HQY
  have HYE := Lib.hid hYY
  obtain ⟨x1, x2, x3, x4, x5⟩ := HA.out Y HBY.out
  have q5 := cellH x2 5
  have q6 := cellH x2 6
  have p0 := cellH HQY.out 0
  have p1 := cellH HQY.out 1
  simp only [List.getElem?_toArray, List.getElem?_cons_zero, List.getElem?_cons_succ] at q5 q6 p0 p1
  rw [← hYY] at q5 q6 p0 p1
  clear hY hb hYY x1 x2 x3 x4 x5
  go_wp2_with fail
  rw [HYE.out]
  refine (HT.out Y).mono ?_
  rintro e w2 ⟨rfl, rfl⟩
  rw [HYE.out] at q5 q6 p0 p1
  have HS3 := Lib.hid (cells1 w2 #[.int .i64 (-300)] 3 (Below.refl _ _))
  go_wp2_with fail
  refine (HMX.out _ _ HS3.out.1).mono ?_
  rintro e w3 ⟨rfl, rfl⟩
  have HB3 := Lib.hid (HBY.out.trans (HS3.out.2.2.mono HBY.out.size))
  obtain ⟨w3, hw3⟩ : ∃ X, w2.alloc (.cells #[.int .i64 (-300)] 3) = X := ⟨_, rfl⟩
  rw [hw3] at HB3 ⊢
  have HS4 := Lib.hid (cells1 w3 #[.int .i64 300] 3 (Below.refl _ _))
  clear hw3 q5 q6 p0 p1 HS3
  go_wp2_with fail
  refine (HMN.out _ _ HS4.out.1).mono ?_
  rintro e w4 ⟨rfl, rfl⟩
  have HB4 := Lib.hid (HB3.out.trans (HS4.out.2.2.mono HB3.out.size))
  obtain ⟨w4, hw4⟩ : ∃ X, w3.alloc (.cells #[.int .i64 300] 3) = X := ⟨_, rfl⟩
  rw [hw4] at HB4 ⊢
  have HS5 := Lib.hid (cells1 w4 #[.int .i64 L, .int .i64 Q] 36 (Below.refl _ _))
  have HB5 := Lib.hid (HB4.out.trans (HS5.out.2.2.mono HB4.out.size))
  obtain ⟨x1, x2, x3, x4, x5⟩ := HA.out _ HB5.out
  have HX3 := Lib.hid x3
  have HX5 := Lib.hid x5
  have r0 := cellH x3 0
  have r1 := cellH x3 1
  have rf := freeH x3
  have n0 := cellH HS5.out.1 0
  have n1 := cellH HS5.out.1 1
  simp only [List.getElem?_toArray, List.getElem?_cons_zero, List.getElem?_cons_succ] at r0 r1 n0 n1
  clear hw4 x1 x2 x3 x4 x5 HS4
  by_cases hLQ : Q < L
  · have HN : Hid (B = false) := Lib.hid (by rw [HB.out, decide_eq_false (by omega)])
    go_wp2_with fail
    obtain ⟨z1, z2⟩ := set2 HX3.out HX5.out (by omega) (.int .i64 0) (.int .i64 0)
    refine bodyPost_ret (res_ct Tryz.results86 _ _ (w.heap.size + 1 + 1) 36 #[.int .i64 0, .int .i64 0] (0, 0) _ rfl z1 Tryz.underlying36 rfl info_sp2) rfl ?_
    exact ⟨by rw [← HF.out.1, ← HF.out.2, HN.out]; rfl, z2⟩
  · have HN : Hid (B = true) := Lib.hid (by rw [HB.out, decide_eq_true (by omega)])
    go_wp2_with fail
    obtain ⟨z1, z2⟩ := set2 HX3.out HX5.out (by omega) (.int .i64 L) (.int .i64 Q)
    refine bodyPost_ret (res_ct Tryz.results86 _ _ (w.heap.size + 1 + 1) 36 #[.int .i64 L, .int .i64 Q] (0, 0) _ rfl z1 Tryz.underlying36 rfl info_sp2) rfl ?_
    exact ⟨by rw [← HF.out.1, ← HF.out.2, HN.out]; rfl, z2⟩
end Go.Proofs.YtebdboacmeafaaaGreat
