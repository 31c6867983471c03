/- Merged: CB4, CD7, CD8. -/
import Derived.Test.YtebdboacmeafaaaGreatCB3
import Derived.Test.YtebdboacmeafaaaGreatCDA
import Derived.Test.YtebdboacmeafaaaGreatCDB
import Derived.Test.YtebdboacmeafaaaGreatCAB
/- Package circle: Alone. -/
set_option linter.unusedVariables false
set_option linter.unusedSimpArgs false
namespace Go.Proofs.YtebdboacmeafaaaGreat
open Go Go.RowKit

/-- What Alone returns. -/
def alnV (cs : List Ci) (ks : List Ck) (id : Int) : Value :=
  if ccE cs ks = 0 then
    (match ckF ks id with
    | none => .tuple #[.agg #[.int .i64 0, .int .i64 0], .int .i64 5]
    | some k => if alB ((ciF cs k.c).getD .nil).x ((ciF cs k.c).getD .nil).y k = true then .tuple #[.agg #[.int .i64 (alL ((ciF cs k.c).getD .nil).x ((ciF cs k.c).getD .nil).y k), .int .i64 (alH ((ciF cs k.c).getD .nil).x ((ciF cs k.c).getD .nil).y k)], .int .i64 0] else .tuple #[.agg #[.int .i64 0, .int .i64 0], .int .i64 9])
  else .tuple #[.agg #[.int .i64 0, .int .i64 0], .int .i64 (ccE cs ks)]
set_option maxRecDepth 100000 in
set_option maxHeartbeats 4000000 in
theorem Alone_any (v1 v2 : Value) (cs : List Ci) (ks : List Ck) (id : Int) (w : World) (hv1 : CiRow w v1 cs) (hv2 : CkRow w v2 ks) (hl1 : cs.length ≤ 9223372036854775807) (hl2 : ks.length ≤ 9223372036854775807) :
    Calls Tryz.prog 30 #[.agg #[v1, v2], .int .i64 id] w fun e w' => e = .returned (alnV cs ks id) ∧ Below w.heap.size w w' := by
  have HCH := Lib.hid (fun w' (h : Below w.heap.size w w') => cCheck_any v1 v2 cs ks w' (hv1.keep h) (hv2.keep h) hl1 hl2)
  have HOK := Lib.hid (ccE_ok (cs := cs) (ks := ks))
  have HV : Hid (alnV cs ks id = _) := Lib.hid (alnV.eq_1 cs ks id)
  have HV1 := Lib.hid hv1
  have HV2 := Lib.hid hv2
  obtain ⟨a1, c1, rfl, _⟩ := hv1.form
  obtain ⟨a2, c2, rfl, _⟩ := hv2.form
  obtain ⟨E, hE⟩ : ∃ z, ccE cs ks = z := ⟨_, rfl⟩
  obtain ⟨V, hV⟩ : ∃ z, alnV cs ks id = z := ⟨_, rfl⟩
  rw [hE] at HCH HOK HV
  rw [hV] at HV ⊢
  clear hE hV hv1 hv2
  have HA := Lib.hid (fun W' => two_cells w #[.slice a1 cs.length c1, .slice a2 ks.length c2] #[.int .i64 0, .int .i64 0] 25 36 (W := W'))
  have HB0 := Lib.hid (Below.refl ((w.alloc (.cells #[.slice a1 cs.length c1, .slice a2 ks.length c2] 25)).alloc (.cells #[.int .i64 0, .int .i64 0] 36)).heap.size ((w.alloc (.cells #[.slice a1 cs.length c1, .slice a2 ks.length c2] 25)).alloc (.cells #[.int .i64 0, .int .i64 0] 36)))
  obtain ⟨Z, hZ⟩ : ∃ Z, (w.alloc (.cells #[.slice a1 cs.length c1, .slice a2 ks.length c2] 25)).alloc (.cells #[.int .i64 0, .int .i64 0] 36) = Z := ⟨_, rfl⟩
  rw [hZ] at HA HB0
  have HZ := Lib.hid hZ
  have HRD : Hid (∀ W', Below Z.heap.size Z W' → (W'.cell? ⟨w.heap.size, 0, none⟩ = some (.slice a1 cs.length c1) ∧ W'.cell? ⟨w.heap.size, 1, none⟩ = some (.slice a2 ks.length c2)) ∧ (W'.cell? ⟨w.heap.size + 1, 0, none⟩ = some (.int .i64 0) ∧ W'.cell? ⟨w.heap.size + 1, 1, none⟩ = some (.int .i64 0) ∧ (∀ o, W'.frozen? ⟨w.heap.size + 1, o, none⟩ = false)) ∧ Below w.heap.size w W') := Lib.hid (fun W' h => by
    obtain ⟨z0, z1, _, zb⟩ := HA.out W' h
    exact ⟨⟨cellH z0 0, cellH z0 1⟩, ⟨cellH z1 0, cellH z1 1, freeH z1⟩, zb⟩)
  clear hZ
  go_enter Tryz.func30, Tryz.ntmps30
  go_wp2_with fail
  rw [HZ.out]
  refine (HCH.out Z (HRD.out Z HB0.out).2.2).mono ?_
  rintro e w1 ⟨rfl, hb1⟩
  have HB1 := Lib.hid hb1
  obtain ⟨⟨q0, q1⟩, ⟨r0, r1, rf⟩, _⟩ := HRD.out w1 hb1
  clear hb1
  by_cases h0 : E = 0
  case neg =>
    have HN : Hid (V = .tuple #[.agg #[.int .i64 0, .int .i64 0], .int .i64 E]) := Lib.hid (by rw [HV.out, if_neg h0])
    have h0' : (E != 0) = true := by simpa using h0
    clear h0
    go_wp2_with fail
    obtain ⟨_, z0, _, zb⟩ := HA.out w1 HB1.out
    obtain ⟨z1, z2⟩ := set2 z0 zb (by omega) (.int .i64 0) (.int .i64 0)
    refine bodyPost_ret (res_ct Tryz.results30 _ _ (w.heap.size + 1) 36 #[.int .i64 0, .int .i64 0] (0, 0) _ rfl z1 Tryz.underlying36 rfl info_sp2) rfl ?_
    exact ⟨by rw [HN.out]; rfl, z2⟩
  subst h0
  have HO := Lib.hid (HOK.out rfl)
  have HCK := Lib.hid (fun w' (h : Below Z.heap.size Z w') => checkOf_any (.slice a2 ks.length c2) ks id w' (HV2.out.keep (HRD.out w' h).2.2) (by have := HO.out.m; omega))
  have HMEM := Lib.hid (fun k => ckF_mem (l := ks) (id := id) (k := k))
  obtain ⟨R, hR⟩ : ∃ z, ckF ks id = z := ⟨_, rfl⟩
  rw [hR] at HCK HV HMEM
  clear hR
  cases R with
  | none =>
    simp only [Option.getD_none, Ck.nil, Option.isSome_none] at HCK
    go_wp2_with fail
    refine (HCK.out w1 HB1.out).mono ?_
    rintro e w2 ⟨rfl, hb2⟩
    have HB2 := Lib.hid (HB1.out.trans (hb2.mono HB1.out.size))
    clear hb2 q0 q1 r0 r1 rf
    have HN : Hid (V = .tuple #[.agg #[.int .i64 0, .int .i64 0], .int .i64 5]) := Lib.hid (by rw [HV.out]; simp)
    have HY := Lib.hid (HB2.out.alloc HB2.out.size (.cells #[.int .i64 0, .int .i64 0, .int .i64 0, .int .i64 0, .int .i64 0, .int .i64 0, .int .i64 0] 67))
    obtain ⟨⟨q0, q1⟩, ⟨r0, r1, rf⟩, _⟩ := HRD.out _ HY.out
    go_wp2_with fail
    obtain ⟨_, z0, _, zb⟩ := HA.out _ HY.out
    obtain ⟨z1, z2⟩ := set2 z0 zb (by omega) (.int .i64 0) (.int .i64 0)
    refine bodyPost_ret (res_ct Tryz.results30 _ _ (w.heap.size + 1) 36 #[.int .i64 0, .int .i64 0] (0, 0) _ rfl z1 Tryz.underlying36 rfl info_sp2) rfl ?_
    exact ⟨by rw [HN.out]; rfl, z2⟩
  | some k =>
    simp only [Option.getD_some, Option.isSome_some] at HCK
    go_wp2_with fail
    refine (HCK.out w1 HB1.out).mono ?_
    rintro e w2 ⟨rfl, hb2⟩
    have HB2 := Lib.hid (HB1.out.trans (hb2.mono HB1.out.size))
    clear hb2 q0 q1 r0 r1 rf
    obtain ⟨j, hj, hjk, hid⟩ := HMEM.out k rfl
    obtain ⟨⟨z, hz⟩, _⟩ := HO.out.ck j hj
    rw [hjk] at hz
    have HKO := Lib.hid hz
    have HVV : Hid (V = if alB z.x z.y k = true then .tuple #[.agg #[.int .i64 (alL z.x z.y k), .int .i64 (alH z.x z.y k)], .int .i64 0] else .tuple #[.agg #[.int .i64 0, .int .i64 0], .int .i64 9]) := Lib.hid (by
      have h := HV.out
      simp only [if_true] at h
      rw [h, hz.of]; rfl)
    have HCO := Lib.hid (fun w' (h : Below Z.heap.size Z w') => circleOf_any (.slice a1 cs.length c1) cs k.c w' (HV1.out.keep (HRD.out w' h).2.2) (by have := HO.out.n; omega))
    rw [hz.of] at HCO
    have HAL := Lib.hid (fun w' => allowed_any z.x z.y k w' hz.s hz.sl)
    obtain ⟨B, hB⟩ : ∃ x, alB z.x z.y k = x := ⟨_, rfl⟩
    obtain ⟨L, hL⟩ : ∃ x, alL z.x z.y k = x := ⟨_, rfl⟩
    obtain ⟨Q, hQ⟩ : ∃ x, alH z.x z.y k = x := ⟨_, rfl⟩
    rw [hB, hL, hQ] at HAL HVV
    clear hj hjk hid hz hB hL hQ HKO HV HMEM
    obtain ⟨ki, kc, kt, kx, ky, ks', kl⟩ := k
    obtain ⟨zi, zx, zy, zf, zt, zl, zh, zd⟩ := z
    simp only [Option.getD_some, Option.isSome_some] at HAL HCO
    have HB3 := Lib.hid (HB2.out.alloc HB2.out.size (.cells #[.int .i64 ki, .int .i64 kc, .int .i64 kt, .int .i64 kx, .int .i64 ky, .int .i64 ks', .int .i64 kl] 67))
    have HQ3 : Hid ((w2.alloc (.cells #[.int .i64 ki, .int .i64 kc, .int .i64 kt, .int .i64 kx, .int .i64 ky, .int .i64 ks', .int .i64 kl] 67)).heap[w2.heap.size]? = some (.cells #[.int .i64 ki, .int .i64 kc, .int .i64 kt, .int .i64 kx, .int .i64 ky, .int .i64 ks', .int .i64 kl] 67 (0, 0))) := Lib.hid (heap_alloc_new _ _)
    obtain ⟨⟨q0, q1⟩, _, _⟩ := HRD.out _ HB3.out
    obtain ⟨kb, hkb⟩ : ∃ y, w2.heap.size = y := ⟨_, rfl⟩
    rw [hkb] at HQ3
    obtain ⟨w3, hw3⟩ : ∃ X, w2.alloc (.cells #[.int .i64 ki, .int .i64 kc, .int .i64 kt, .int .i64 kx, .int .i64 ky, .int .i64 ks', .int .i64 kl] 67) = X := ⟨_, rfl⟩
    rw [hw3] at HB3 HQ3
    have HW3 := Lib.hid hw3
    clear hw3
    go_wp2_with fail
    rw [HW3.out]
    refine (HCO.out w3 HB3.out).mono ?_
    rintro e w4 ⟨rfl, hb4⟩
    have HB4 := Lib.hid (HB3.out.trans (hb4.mono HB3.out.size))
    have HQ4 := Lib.hid ((hb4.block _ (Array.getElem?_eq_some_iff.1 HQ3.out).1).trans HQ3.out)
    have HB5 := Lib.hid (HB4.out.alloc HB4.out.size (.cells #[.int .i64 zi, .int .i64 zx, .int .i64 zy, .int .i64 zf, .int .i64 zt, .int .i64 zl, .int .i64 zh, .int .i64 zd] 93))
    have HQ5 : Hid ((w4.alloc (.cells #[.int .i64 zi, .int .i64 zx, .int .i64 zy, .int .i64 zf, .int .i64 zt, .int .i64 zl, .int .i64 zh, .int .i64 zd] 93)).heap[w4.heap.size]? = some (.cells #[.int .i64 zi, .int .i64 zx, .int .i64 zy, .int .i64 zf, .int .i64 zt, .int .i64 zl, .int .i64 zh, .int .i64 zd] 93 (0, 0))) := Lib.hid (heap_alloc_new _ _)
    have s := (gNe w4 (.cells #[.int .i64 zi, .int .i64 zx, .int .i64 zy, .int .i64 zf, .int .i64 zt, .int .i64 zl, .int .i64 zh, .int .i64 zd] 93) kb (by have := (Array.getElem?_eq_some_iff.1 HQ4.out).1; omega)).trans HQ4.out
    have HQ6 := Lib.hid s
    have k0 := cellH HQ6.out 0
    have k1 := cellH HQ6.out 1
    have k2 := cellH HQ6.out 2
    have k3 := cellH HQ6.out 3
    have k4 := cellH HQ6.out 4
    have k5 := cellH HQ6.out 5
    have k6 := cellH HQ6.out 6
    simp only [List.getElem?_toArray, List.getElem?_cons_zero, List.getElem?_cons_succ] at k0 k1 k2 k3 k4 k5 k6
    obtain ⟨w5, hw5⟩ : ∃ X, w4.alloc (.cells #[.int .i64 zi, .int .i64 zx, .int .i64 zy, .int .i64 zf, .int .i64 zt, .int .i64 zl, .int .i64 zh, .int .i64 zd] 93) = X := ⟨_, rfl⟩
    rw [hw5] at HB5 HQ6
    have HW5 := Lib.hid hw5
    clear hb4 s hkb q0 q1 hw5
    go_wp2_with fail
    rw [HW5.out]
    refine (HAL.out w5).mono ?_
    rintro e w6 ⟨rfl, hb6⟩
    have HB6 := Lib.hid (HB5.out.trans (hb6.mono HB5.out.size))
    clear hb6 k0 k1 k2 k3 k4 k5 k6
    cases B
    · have HN : Hid (V = .tuple #[.agg #[.int .i64 0, .int .i64 0], .int .i64 9]) := Lib.hid (by rw [HVV.out]; rfl)
      have HB7 := Lib.hid (HB6.out.alloc HB6.out.size (.cells #[.int .i64 0, .int .i64 0] 36))
      obtain ⟨⟨q0, q1⟩, ⟨r0, r1, rf⟩, _⟩ := HRD.out _ HB7.out
      go_wp2_with fail
      obtain ⟨_, z0, _, zb⟩ := HA.out _ HB7.out
      obtain ⟨z1, z2⟩ := set2 z0 zb (by omega) (.int .i64 0) (.int .i64 0)
      refine bodyPost_ret (res_ct Tryz.results30 _ _ (w.heap.size + 1) 36 #[.int .i64 0, .int .i64 0] (0, 0) _ rfl z1 Tryz.underlying36 rfl info_sp2) rfl ?_
      exact ⟨by rw [HN.out]; rfl, z2⟩
    · have HN : Hid (V = .tuple #[.agg #[.int .i64 L, .int .i64 Q], .int .i64 0]) := Lib.hid (by rw [HVV.out]; rfl)
      have HB7 := Lib.hid (HB6.out.alloc HB6.out.size (.cells #[.int .i64 L, .int .i64 Q] 36))
      obtain ⟨⟨q0, q1⟩, ⟨r0, r1, rf⟩, _⟩ := HRD.out _ HB7.out
      go_wp2_with fail
      obtain ⟨_, z0, _, zb⟩ := HA.out _ HB7.out
      obtain ⟨z1, z2⟩ := set2 z0 zb (by omega) (.int .i64 L) (.int .i64 Q)
      refine bodyPost_ret (res_ct Tryz.results30 _ _ (w.heap.size + 1) 36 #[.int .i64 L, .int .i64 Q] (0, 0) _ rfl z1 Tryz.underlying36 rfl info_sp2) rfl ?_
      exact ⟨by rw [HN.out]; rfl, z2⟩
end Go.Proofs.YtebdboacmeafaaaGreat
/- Package circle: Clashes. -/
set_option linter.unusedVariables false
set_option linter.unusedSimpArgs false
namespace Go.Proofs.YtebdboacmeafaaaGreat
open Go Go.RowKit
attribute [local go_sem] Oper.semAt_some

def enc2 (p : Pi2) : List Value := [.int .i64 p.1, .int .i64 p.2]
theorem flat2_len : ∀ l : List Pi2, (l.flatMap enc2).length = l.length * 2
  | [] => rfl
  | a :: l => by rw [List.flatMap_cons, List.length_append, flat2_len l, List.length_cons]; simp [enc2]; omega
theorem flat2_get : ∀ (l : List Pi2) (i : Nat), i < l.length → (l.flatMap enc2)[i * 2]? = some (.int .i64 (l.getD i (0, 0)).1) ∧ (l.flatMap enc2)[i * 2 + 1]? = some (.int .i64 (l.getD i (0, 0)).2)
  | [], i, h => by simp at h
  | a :: l, 0, _ => ⟨rfl, rfl⟩
  | a :: l, i + 1, h => by
    have h2 := flat2_get l i (by simpa using h)
    rw [List.flatMap_cons]
    have e1 : (i + 1) * 2 = 2 + i * 2 := by omega
    rw [e1, List.getElem?_append_right (by simp [enc2]), List.getElem?_append_right (by simp [enc2]; omega)]
    have e2 : 2 + i * 2 - (enc2 a).length = i * 2 := by simp [enc2]
    have e3 : 2 + i * 2 + 1 - (enc2 a).length = i * 2 + 1 := by simp [enc2]; omega
    rw [e2, e3]
    simpa using h2
theorem P2Row.of_own {w : World} {base : Nat} {v : Value} {l : List Pi2} (h : w.ownsRow base 68 2 v l.length (l.flatMap enc2)) : P2Row w v l := by
  rcases h.2 with ⟨h1, h2⟩ | ⟨nb, nc, cur, e1, e2, e3, e4, e5, e6, e7⟩
  · have : l = [] := List.eq_nil_of_length_eq_zero h2
    subst this
    exact .inl ⟨none, 0, h1, rfl⟩
  · refine .inr ⟨nb, 0, nc, e1, (Array.getElem?_eq_some_iff.1 e3).1, fun i hi => ?_⟩
    have hl := flat2_len l
    obtain ⟨g1, g2⟩ := flat2_get l i hi
    have h7 : cur.toList.take (l.length * 2) = l.flatMap enc2 := by simpa using e7
    rw [← h7] at g1 g2
    rw [List.getElem?_take_of_lt (by omega), Array.getElem?_toList] at g1 g2
    rw [cellH e3, cellH e3, Nat.zero_add]
    exact ⟨g1, g2⟩
theorem P2Row.kc5 {A B : World} {v : Value} {l : List Pi2} (h : P2Row A v l) (k : KC5 A B) : P2Row B v l := by
  rcases h with h | ⟨b, off, cap, hv, hb, hc⟩
  · exact .inl h
  · exact .inr ⟨b, off, cap, hv, Nat.lt_of_lt_of_le hb k.1, fun i hi => ⟨k.cell (hc i hi).1, k.cell (hc i hi).2⟩⟩
theorem clL_len {dr : Int} : ∀ l : List Th, l.length ≤ 61 → (clL dr l).length ≤ l.length * 62
  | [], _ => by simp [clL]
  | a :: l, h => by
    rw [List.length_cons] at h
    have h1 := clL_len (dr := dr) l (by omega)
    have h2 := List.length_filter_le (fun b => clB dr a b) l
    rw [clL, List.length_append, List.length_append, List.length_map, List.length_cons]
    have h3 : (if a.no = true then [(a.id, a.id)] else []).length ≤ 1 := by split <;> simp
    omega
/-- The pairs of a circle, and of all. -/
def clN (cs : List Ci) (ks : List Ck) (z : Ci) : List Pi2 := clL ((ciF cs z.id).getD .nil).dr (dlL ((ciF cs z.id).getD .nil) ks)
def clK (cs : List Ci) (ks : List Ck) (k : Nat) : List Pi2 := (cs.take k).flatMap (clN cs ks)
theorem clK_step {cs : List Ci} {ks : List Ck} {k : Nat} (hk : k < cs.length) : clK cs ks (k + 1) = clK cs ks k ++ clN cs ks (cs.getD k .nil) := by
  unfold clK
  rw [List.take_succ_eq_append_getElem hk, List.flatMap_append, List.getD_eq_getElem?_getD, List.getElem?_eq_getElem hk]
  simp
theorem clN_len {cs : List Ci} {ks : List Ck} (ho : CcOk cs ks) (z : Ci) : (clN cs ks z).length ≤ 3782 := by
  have h := dlL_len ho ((ciF cs z.id).getD .nil)
  have h2 := clL_len (dr := ((ciF cs z.id).getD .nil).dr) _ h
  unfold clN
  omega
theorem clK_len {cs : List Ci} {ks : List Ck} (ho : CcOk cs ks) : ∀ k, k ≤ cs.length → (clK cs ks k).length ≤ k * 3782
  | 0, _ => by simp [clK]
  | k + 1, h => by
    rw [clK_step (by omega), List.length_append]
    have h1 := clK_len ho k (by omega)
    have h2 := clN_len ho (cs.getD k .nil)
    omega
theorem ciF_at {cs : List Ci} {k : Nat} (hk : k < cs.length) : ∃ z, ciF cs (cs.getD k .nil).id = some z := by
  unfold ciF
  refine Option.isSome_iff_exists.1 (List.find?_isSome.2 ⟨cs.getD k .nil, ?_, by simp⟩)
  rw [List.getD_eq_getElem?_getD, List.getElem?_eq_getElem hk]
  exact List.getElem_mem _
theorem cell_two2 (w : World) (x y : Value) (t : TypeId) (j : Nat) (u : Value) (h : [x, y][j]? = some u) : (w.alloc (.cells #[x, y] t)).cell? ((⟨w.heap.size, 0, none⟩ : Addr).add j) = some u := by
  rw [addr_add, Nat.zero_add, World.cell?_alloc_new]
  simpa using h
theorem info_p22 : (Tryz.prog.info? 68).map (fun i => (i.zero, i.size, i.bytes)) = some (some (.agg #[.int .i64 0, .int .i64 0]), 2, 16) := by kernel_rfl
theorem RgQ.low {bt et : TypeId} {sz n0 e m : Nat} {xs : List Value} {w W1 Y : World} (h : RgQ bt et sz W1 n0 e m xs Y) (hb : Below w.heap.size w W1) (hn : w.heap.size ≤ n0) (he : w.heap.size ≤ e) : Below w.heap.size w Y :=
  ⟨h.1.2.2.1.trans hb.os, h.1.2.2.2.1.trans hb.tape, h.1.2.2.2.2.trans hb.output, Nat.le_trans hn h.1.2.1, fun b hb' => (h.1.1 b (by omega) (by omega)).trans (hb.block b hb')⟩
/-- What Clashes answers. -/
def ClOut (cs : List Ci) (ks : List Ck) (w : World) (e : Ending) (w' : World) : Prop :=
  Below w.heap.size w w' ∧ (ccE cs ks ≠ 0 → e = .returned (.tuple #[.slice none 0 0, .int .i64 (ccE cs ks)])) ∧ (ccE cs ks = 0 → ∃ v, e = .returned (.tuple #[v, .int .i64 0]) ∧ P2Row w' v (clK cs ks cs.length))
set_option maxRecDepth 100000 in
set_option maxHeartbeats 8000000 in
theorem Clashes_any (v1 v2 : Value) (cs : List Ci) (ks : List Ck) (w : World) (hv1 : CiRow w v1 cs) (hv2 : CkRow w v2 ks) (hl1 : cs.length ≤ 9223372036854775807) (hl2 : ks.length ≤ 9223372036854775807) :
    Calls Tryz.prog 26 #[.agg #[v1, v2]] w fun e w' => ClOut cs ks w e w' := by
  have HCH := Lib.hid (fun w' (h : Below w.heap.size w w') => cCheck_any v1 v2 cs ks w' (hv1.keep h) (hv2.keep h) hl1 hl2)
  have HDO := Lib.hid (fun w' id (h : Below w.heap.size w w') (ho : CcOk cs ks) => dialOf_one v1 v2 cs ks id w' (hv1.keep h) (hv2.keep h) ho)
  have HOK := Lib.hid (ccE_ok (cs := cs) (ks := ks))
  have HV1 := Lib.hid hv1
  obtain ⟨a1, c1, rfl, hc1⟩ := hv1.form
  obtain ⟨a2, c2, rfl, hc2⟩ := hv2.form
  have HC := Lib.hid hc1
  unfold ClOut
  obtain ⟨E, hE⟩ : ∃ E, ccE cs ks = E := ⟨_, rfl⟩
  obtain ⟨LL, hLL⟩ : ∃ L, clK cs ks cs.length = L := ⟨_, rfl⟩
  rw [hE] at HCH HOK ⊢
  rw [hLL]
  have HLL := Lib.hid hLL
  clear hE hLL hv1 hv2 hc1 hc2
  have HA := Lib.hid (fun W' => cells1 w #[.slice a1 cs.length c1, .slice a2 ks.length c2] 25 (W := W'))
  have HB0 := Lib.hid (Below.refl (w.alloc (.cells #[.slice a1 cs.length c1, .slice a2 ks.length c2] 25)).heap.size (w.alloc (.cells #[.slice a1 cs.length c1, .slice a2 ks.length c2] 25)))
  obtain ⟨Z, hZ⟩ : ∃ Z, w.alloc (.cells #[.slice a1 cs.length c1, .slice a2 ks.length c2] 25) = Z := ⟨_, rfl⟩
  rw [hZ] at HA HB0
  have HZ := Lib.hid hZ
  clear hZ
  refine callsIn_wide.1 (?_ : CallsIn Fence.wide 7 _ _ _ _ _)
  refine callsIn_of_wp_marks Tryz.func26 rfl trivial ?_ rfl
  simp only [Tryz.ntmps26, List.size_toArray, List.length_cons, List.length_nil, Nat.reduceAdd, Nat.reduceSub, Array.replicate_succ, Array.replicate_zero, List.push_toArray, List.append_toArray, List.nil_append, List.cons_append]
  refine wpIn_wide.2 ?_
  go_wp2_with fail
  rw [HZ.out]
  refine (HCH.out Z (HA.out Z HB0.out).2.2).mono ?_
  rintro e w1 ⟨rfl, hb1⟩
  have HB1 := Lib.hid hb1
  obtain ⟨x1, x3, xb⟩ := HA.out w1 hb1
  have HXW := Lib.hid xb
  have q0 := cellH x1 0
  have q1 := cellH x1 1
  simp only [List.getElem?_toArray, List.getElem?_cons_zero, List.getElem?_cons_succ] at q0 q1
  by_cases h0 : E = 0
  case neg =>
    have h0' : (E != 0) = true := by simpa using h0
    have HNE := Lib.hid h0
    clear h0
    go_wp2_with fail
    try rw [Exit.noGoto_ret]
    exact leaves_marks5 (F := Fence.wide) (n := 7) w.heap.size [] _ (by simp) (fun D' hD' => by simp at hD') (fun W' hk hb' => ⟨_, by simp [results, Tryz.results26, go_sem], HXW.out.trans hb', fun _ => rfl, fun h => absurd h HNE.out⟩)
  subst h0
  have HO := Lib.hid (HOK.out rfl)
  have HFIN := Lib.hid (fun z id h => And.intro (dlL_ok HO.out (id := id) (z := z) h) (ciF_ok HO.out (id := id) (z := z) h))
  have hal : Below w1.heap.size w1 (w1.alloc (.cells #[.slice none 0 0] 60)) := (Below.refl _ w1).alloc (Nat.le_refl _) _
  have HXB := Lib.hid (HXW.out.trans (hal.mono HXW.out.size))
  have HX1 := Lib.hid ((hal.block _ (Array.getElem?_eq_some_iff.1 x1).1).trans x1)
  have HX2 : Hid ((w1.alloc (.cells #[.slice none 0 0] 60)).heap[w1.heap.size]? = some (.cells #[.slice none 0 0] 60 (0, 0))) := Lib.hid (heap_alloc_new _ _)
  have HX3 : Hid (w.heap.size < w1.heap.size ∧ w1.heap.size < (w1.alloc (.cells #[.slice none 0 0] 60)).heap.size) := Lib.hid ⟨x3, by simp⟩
  have q0' := cellH HX1.out 0
  have q1' := cellH HX1.out 1
  simp only [List.getElem?_toArray, List.getElem?_cons_zero, List.getElem?_cons_succ] at q0' q1'
  obtain ⟨W1, hW1⟩ : ∃ X, w1.alloc (.cells #[.slice none 0 0] 60) = X := ⟨_, rfl⟩
  obtain ⟨ob, hob⟩ : ∃ x, w1.heap.size = x := ⟨_, rfl⟩
  rw [hW1] at HXB HX1 HX2 HX3 q0' q1'
  rw [hob] at HX2 HX3
  clear x1 x3 xb hal
  go_wp2_with fail
  try rw [hW1]
  try rw [hob]
  clear hW1 hob q0 q1 q0' q1' hb1
  refine wpIn_wide.1 (?_ : Code.wpIn Fence.wide 7 _ _ _ _ _)
  refine wpIn_loop (fun a' w' => ∃ (k : Nat) (Ds : List Nat) (u7 u8 u9 u10 u20 u21 u22 u23 u24 u25 u26 u27 u28 u29 u30 u31 u32 u33 u34 u35 u36 u37 : Value), (k ≤ cs.length ∧ Hid (RgQ 60 68 2 W1 W1.heap.size ob (clK cs ks k).length ((clK cs ks k).flatMap enc2) w') ∧ Hid (Ds.Nodup ∧ ∀ D ∈ Ds, W1.heap.size ≤ D ∧ w'.heap[D]? = some (.deferred (some [])))) ∧ a' = { tmps := #[.agg #[.slice a1 cs.length c1, .slice a2 ks.length c2], .pointer (some ⟨w.heap.size, 0, none⟩), .slice none 0 0, .int .i64 0, .int .i64 0, .pointer (some ⟨ob, 0, none⟩), undef, u7, u8, u9, u10, .agg #[.slice a1 cs.length c1, .slice a2 ks.length c2], .int .i64 0, .int .i64 0, .bool false, undef, .pointer (some ⟨w.heap.size, 0, none⟩), .slice a1 cs.length c1, .int .i64 (cs.length : Int), .int .i64 (k : Int), u20, u21, u22, u23, u24, u25, u26, u27, u28, u29, u30, u31, u32, u33, u34, u35, u36, u37, undef], defers := Ds.map fun D => { target := .collected D, args := #[] } }) (fun a' _ => cs.length - (intOf (a'.tmps.getD 19 undef)).toNat) ?start ?round
  case start => exact ⟨0, [], _, _, _, _, _, _, _, _, _, _, _, _, _, _, _, _, _, _, _, _, _, _, ⟨Nat.zero_le _, Lib.hid ⟨⟨fun _ _ _ => rfl, Nat.le_refl _, rfl, rfl, rfl⟩, _, HX2.out, World.ownsRow_nil _ _ _ _⟩, Lib.hid ⟨List.nodup_nil, fun D hD => by simp at hD⟩⟩, rfl⟩
  case round =>
    rintro a' wr ⟨k, Ds, u7, u8, u9, u10, u20, u21, u22, u23, u24, u25, u26, u27, u28, u29, u30, u31, u32, u33, u34, u35, u36, u37, ⟨hk, hR, hD⟩, rfl⟩
    dsimp only
    by_cases hkl : k < cs.length
    · have HWL : Hid (Below w.heap.size w wr) := Lib.hid (hR.out.low HXB.out (by have := HX3.out; omega) (by have := HX3.out; omega))
      have hcb : wr.heap[w.heap.size]? = some (.cells #[.slice a1 cs.length c1, .slice a2 ks.length c2] 25 (0, 0)) := (hR.out.1.1 _ (by have := HX3.out; omega) (by have := HX3.out; omega)).trans HX1.out
      obtain ⟨b, off, rfl, hb, hat⟩ := HC.out k hkl
      obtain ⟨e0, e1, e2, e3, e4, e5, e6, e7⟩ := hat.keep HWL.out hb
      have hki : (k : Int) < cs.length := by omega
      have hk0 : (0 : Int) ≤ k := by omega
      have ek : IntKind.i64.wrap ((k : Int) + 1) = (k : Int) + 1 := IntWalk.i64_in _ (by have := HO.out.n; omega)
      obtain ⟨y, hy⟩ := ciF_at hkl
      have HSTEP := Lib.hid (clK_step (ks := ks) hkl)
      have HNE : Hid (clN cs ks (cs.getD k .nil) = clL y.dr (dlL y ks)) := Lib.hid (by unfold clN; rw [hy]; rfl)
      obtain ⟨X, hX⟩ : ∃ X, cs.getD k .nil = X := ⟨_, rfl⟩
      rw [hX] at e0 e1 e2 e3 e4 e5 e6 e7 hy HSTEP HNE
      have HY := Lib.hid hy
      obtain ⟨x0, x1, x2, x3, x4, x5, x6, x7⟩ := X
      simp only at e0 e1 e2 e3 e4 e5 e6 e7
      have hal : Below wr.heap.size wr (wr.alloc (.cells #[.int .i64 x0, .int .i64 x1, .int .i64 x2, .int .i64 x3, .int .i64 x4, .int .i64 x5, .int .i64 x6, .int .i64 x7] 93)) := (Below.refl _ wr).alloc (Nat.le_refl _) _
      have HBX : Hid ((wr.alloc (.cells #[.int .i64 x0, .int .i64 x1, .int .i64 x2, .int .i64 x3, .int .i64 x4, .int .i64 x5, .int .i64 x6, .int .i64 x7] 93)).heap[wr.heap.size]? = some (.cells #[.int .i64 x0, .int .i64 x1, .int .i64 x2, .int .i64 x3, .int .i64 x4, .int .i64 x5, .int .i64 x6, .int .i64 x7] 93 (0, 0))) := Lib.hid (heap_alloc_new _ _)
      have HR1 := Lib.hid (hR.out.below (by have := HX3.out; omega) hal)
      have HWL1 := Lib.hid (HWL.out.trans (hal.mono HWL.out.size))
      have HD1 : Hid (∀ D ∈ Ds, (W1.heap.size ≤ D ∧ D < (wr.alloc (.cells #[.int .i64 x0, .int .i64 x1, .int .i64 x2, .int .i64 x3, .int .i64 x4, .int .i64 x5, .int .i64 x6, .int .i64 x7] 93)).heap.size) ∧ (wr.alloc (.cells #[.int .i64 x0, .int .i64 x1, .int .i64 x2, .int .i64 x3, .int .i64 x4, .int .i64 x5, .int .i64 x6, .int .i64 x7] 93)).heap[D]? = some (.deferred (some []))) := Lib.hid (fun D hDm => by
        obtain ⟨g1, g2⟩ := hD.out.2 D hDm
        have g3 := (Array.getElem?_eq_some_iff.1 g2).1
        exact ⟨⟨g1, Nat.lt_of_lt_of_le g3 hal.size⟩, (hal.block _ g3).trans g2⟩)
      have HND := Lib.hid hD.out.1
      have hcb1 := (hal.block _ (Array.getElem?_eq_some_iff.1 hcb).1).trans hcb
      have q0 := cellH hcb1 0
      have q1 := cellH hcb1 1
      simp only [List.getElem?_toArray, List.getElem?_cons_zero, List.getElem?_cons_succ] at q0 q1
      have y0 := cellH HBX.out 0
      have y1 := cellH HBX.out 1
      have y2 := cellH HBX.out 2
      have y3 := cellH HBX.out 3
      have y4 := cellH HBX.out 4
      have y5 := cellH HBX.out 5
      have y6 := cellH HBX.out 6
      have y7 := cellH HBX.out 7
      simp only [List.getElem?_toArray, List.getElem?_cons_zero, List.getElem?_cons_succ] at y0 y1 y2 y3 y4 y5 y6 y7
      obtain ⟨xb, hxb⟩ : ∃ n, wr.heap.size = n := ⟨_, rfl⟩
      obtain ⟨w2, hw2⟩ : ∃ n, wr.alloc (.cells #[.int .i64 x0, .int .i64 x1, .int .i64 x2, .int .i64 x3, .int .i64 x4, .int .i64 x5, .int .i64 x6, .int .i64 x7] 93) = n := ⟨_, rfl⟩
      rw [hxb] at HBX y0 y1 y2 y3 y4 y5 y6 y7
      rw [hw2] at HBX HR1 HWL1 HD1 q0 q1 y0 y1 y2 y3 y4 y5 y6 y7
      have HKL := Lib.hid hkl
      have HDC := Lib.hid (HDO.out w2 x0 HWL1.out HO.out)
      rw [show ciF cs x0 = some y from hy] at HDC
      clear hat hb hX hy hal hcb hcb1 hR hD hk hkl
      gi_wp2
      clear hw2
      refine ⟨trivial, (callsIn_wide.2 HDC.out).mono ?_⟩
      rintro e w3 ⟨hb3, v, rfl, htr, hto⟩
      have HR3 := Lib.hid (HR1.out.below (by have := HX3.out; omega) hb3)
      have HWL3 := Lib.hid (HWL1.out.trans (hb3.mono HWL1.out.size))
      have HD3 : Hid (∀ D ∈ Ds, (W1.heap.size ≤ D ∧ D < w3.heap.size) ∧ w3.heap[D]? = some (.deferred (some []))) := Lib.hid (fun D hDm => by
        obtain ⟨g1, g2⟩ := HD1.out D hDm
        exact ⟨⟨g1.1, Nat.lt_of_lt_of_le g1.2 hb3.size⟩, (hb3.block _ g1.2).trans g2⟩)
      have HTR := Lib.hid htr
      have HTO := Lib.hid hto
      obtain ⟨g, n, cap, _, rfl, _⟩ := hto
      have HFN := Lib.hid (HFIN.out y _ HY.out)
      have HLN := Lib.hid (dlL_len HO.out y)
      obtain ⟨TL, hTL⟩ : ∃ L, dlL y ks = L := ⟨_, rfl⟩
      rw [hTL] at HTR HFN HLN HNE
      obtain ⟨zi, zx, zy, zf, zt, zl, zh, dr⟩ := y
      unfold dlV
      simp only at HNE ⊢
      have hal : Below w3.heap.size w3 (w3.alloc (.cells #[.int .i64 zi, .int .i64 zx, .int .i64 zy, .int .i64 zf, .int .i64 zt, .int .i64 zl, .int .i64 zh, .int .i64 dr, .slice (some ⟨g, 0, none⟩) n cap] 119)) := (Below.refl _ w3).alloc (Nat.le_refl _) _
      have HDX : Hid ((w3.alloc (.cells #[.int .i64 zi, .int .i64 zx, .int .i64 zy, .int .i64 zf, .int .i64 zt, .int .i64 zl, .int .i64 zh, .int .i64 dr, .slice (some ⟨g, 0, none⟩) n cap] 119)).heap[w3.heap.size]? = some (.cells #[.int .i64 zi, .int .i64 zx, .int .i64 zy, .int .i64 zf, .int .i64 zt, .int .i64 zl, .int .i64 zh, .int .i64 dr, .slice (some ⟨g, 0, none⟩) n cap] 119 (0, 0))) := Lib.hid (heap_alloc_new _ _)
      have HR4 := Lib.hid (HR3.out.below (by have := HX3.out; omega) hal)
      have HTR4 := Lib.hid (HTR.out.keep hal)
      have HTO4 := Lib.hid (HTO.out.keep hal)
      have HD4 : Hid (∀ D ∈ Ds, (W1.heap.size ≤ D ∧ D < (w3.alloc (.cells #[.int .i64 zi, .int .i64 zx, .int .i64 zy, .int .i64 zf, .int .i64 zt, .int .i64 zl, .int .i64 zh, .int .i64 dr, .slice (some ⟨g, 0, none⟩) n cap] 119)).heap.size) ∧ (w3.alloc (.cells #[.int .i64 zi, .int .i64 zx, .int .i64 zy, .int .i64 zf, .int .i64 zt, .int .i64 zl, .int .i64 zh, .int .i64 dr, .slice (some ⟨g, 0, none⟩) n cap] 119)).heap[D]? = some (.deferred (some []))) := Lib.hid (fun D hDm => by
        obtain ⟨g1, g2⟩ := HD3.out D hDm
        exact ⟨⟨g1.1, Nat.lt_of_lt_of_le g1.2 hal.size⟩, (hal.block _ g1.2).trans g2⟩)
      have d0 := cellH HDX.out 0
      have d1 := cellH HDX.out 1
      have d2 := cellH HDX.out 2
      have d3 := cellH HDX.out 3
      have d4 := cellH HDX.out 4
      have d5 := cellH HDX.out 5
      have d6 := cellH HDX.out 6
      have d7 := cellH HDX.out 7
      have d8 := cellH HDX.out 8
      simp only [List.getElem?_toArray, List.getElem?_cons_zero, List.getElem?_cons_succ] at d0 d1 d2 d3 d4 d5 d6 d7 d8
      obtain ⟨db, hdb⟩ : ∃ n, w3.heap.size = n := ⟨_, rfl⟩
      obtain ⟨w4, hw4⟩ : ∃ qq, w3.alloc (.cells #[.int .i64 zi, .int .i64 zx, .int .i64 zy, .int .i64 zf, .int .i64 zt, .int .i64 zl, .int .i64 zh, .int .i64 dr, .slice (some ⟨g, 0, none⟩) n cap] 119) = qq := ⟨_, rfl⟩
      rw [hdb] at HDX d0 d1 d2 d3 d4 d5 d6 d7 d8
      rw [hw4] at HDX HR4 HTR4 HTO4 HD4 d0 d1 d2 d3 d4 d5 d6 d7 d8
      have HCS := Lib.hid (clashes_any ⟨zi, zx, zy, zf, zt, zl, zh, dr⟩ (.slice (some ⟨g, 0, none⟩) n cap) w4)
      unfold dlV at HCS
      simp only at HCS
      clear hb3 htr hTL hal q0 q1 y0 y1 y2 y3 y4 y5 y6 y7 e0 e1 e2 e3 e4 e5 e6 e7 HR1 HD1 HR3 HD3 HTR HTO HDC
      gi_wp2
      clear hw4
      refine ⟨trivial, (callsIn_wide.2 HCS.out).mono ?_⟩
      rintro e w5 ⟨Dp, rfl, hb5, hst⟩
      have HR5 := Lib.hid (HR4.out.below (by have := HX3.out; omega) hb5)
      have HD5 : Hid (∀ D ∈ Ds, (W1.heap.size ≤ D ∧ D < w5.heap.size) ∧ w5.heap[D]? = some (.deferred (some []))) := Lib.hid (fun D hDm => by
        obtain ⟨g1, g2⟩ := HD4.out D hDm
        exact ⟨⟨g1.1, Nat.lt_of_lt_of_le g1.2 hb5.size⟩, (hb5.block _ g1.2).trans g2⟩)
      obtain ⟨tb, toff, tcap, C, hvv, hcap, hb0, hc⟩ := StC.of (HTR4.out.keep hb5) (HTO4.out.keep hb5)
      cases hvv
      have HI : Hid (StC Dp ⟨zi, zx, zy, zf, zt, zl, zh, dr⟩ g 0 cap TL C w5) := Lib.hid ⟨hst, hb0⟩
      clear hb5 hst hb0 HTR4 HTO4 HCS HR4 HD4 d0 d1 d2 d3 d4 d5 d6 d7 d8
      unfold ckF1
      gi_wp2
      have HW5 : Hid (W1.heap.size ≤ w5.heap.size ∧ ob < W1.heap.size) := Lib.hid ⟨HR5.out.1.2.1, HX3.out.2⟩
      have HPL : Hid ((clK cs ks k).length ≤ 11 * 3782 ∧ (clL dr TL).length ≤ 3782) := Lib.hid (by
        have h1 := clK_len HO.out k (Nat.le_of_lt HKL.out)
        have h2 := clL_len (dr := dr) TL HLN.out
        have h3 := HO.out.n
        have h4 := HKL.out
        have h5 := HLN.out
        omega)
      have hdr : 0 ≤ dr ∧ dr ≤ 60 := by have := Ci.ok_iff.1 HFN.out.2; simp only at this; omega
      obtain ⟨P0, hP0⟩ : ∃ P, clK cs ks k = P := ⟨_, rfl⟩
      rw [hP0] at HR5 HSTEP HPL
      clear hP0
      refine rangeN (n := 7) (gf := 119) (lb := #[.pointer (some ⟨Dp, 0, none⟩)]) rfl (enters_of Tryz.func119 (by kernel_rfl) rfl)
        (clashes1_seq 6 Dp g 0 cap ⟨zi, zx, zy, zf, zt, zl, zh, dr⟩ TL C hc (by have := HLN.out; omega) hcap hdr HFN.out.1) ?st (fun A B h => KpP.of_below h) (fun _ _ _ h k => h.trans k) (fun Y l ob1 ob2 _ h hc _ => KpP.putObj h hc) (fun _ => rfl)
        (fun pre Y => (RgQ 60 68 2 W1 W1.heap.size ob (P0 ++ pre).length ((P0 ++ pre).flatMap enc2) Y) ∧ ∀ D ∈ Ds, Y.heap[D]? = some (.deferred (some [])))
        (fun _ _ _ => False) ?i (fun _ _ _ _ _ h _ _ => h) ?ii (fun _ _ _ _ h _ => h) ?h0
        (fun x a' Y => ∃ p, a' = { tmps := #[.agg #[.slice (some ⟨b, off, none⟩) cs.length c1, .slice a2 ks.length c2], .pointer (some ⟨w.heap.size, 0, none⟩), .slice none 0 0, .int .i64 0, .int .i64 0, .pointer (some ⟨ob, 0, none⟩), undef, .pointer (some ⟨xb, 0, none⟩), .pointer (some ⟨db, 0, none⟩), .bool true, .pointer (some ⟨p, 0, none⟩), .agg #[.slice (some ⟨b, off, none⟩) cs.length c1, .slice a2 ks.length c2], .int .i64 0, .int .i64 0, .bool false, undef, .pointer (some ⟨w.heap.size, 0, none⟩), .slice (some ⟨b, off, none⟩) cs.length c1, .int .i64 cs.length, .int .i64 k, .bool true, .pointer (some ⟨b, off + k * 8, none⟩), .agg #[.int .i64 x0, .int .i64 x1, .int .i64 x2, .int .i64 x3, .int .i64 x4, .int .i64 x5, .int .i64 x6, .int .i64 x7], .tuple #[.agg #[.int .i64 zi, .int .i64 zx, .int .i64 zy, .int .i64 zf, .int .i64 zt, .int .i64 zl, .int .i64 zh, .int .i64 dr, .slice (some ⟨g, 0, none⟩) TL.length cap], .bool true], .agg #[.slice (some ⟨b, off, none⟩) cs.length c1, .slice a2 ks.length c2], .pointer (some ⟨xb, 0, none⟩), .int .i64 x0, .tuple #[.agg #[.int .i64 zi, .int .i64 zx, .int .i64 zy, .int .i64 zf, .int .i64 zt, .int .i64 zl, .int .i64 zh, .int .i64 dr, .slice (some ⟨g, 0, none⟩) TL.length cap], .bool true], .agg #[.int .i64 zi, .int .i64 zx, .int .i64 zy, .int .i64 zf, .int .i64 zt, .int .i64 zl, .int .i64 zh, .int .i64 dr, .slice (some ⟨g, 0, none⟩) TL.length cap], .bool true, .agg #[.int .i64 zi, .int .i64 zx, .int .i64 zy, .int .i64 zf, .int .i64 zt, .int .i64 zl, .int .i64 zh, .int .i64 dr, .slice (some ⟨g, 0, none⟩) TL.length cap], .func (.func 119) #[] #[.pointer (some ⟨Dp, 0, none⟩)], .agg #[.int .i64 x.1, .int .i64 x.2], u33, u34, u35, u36, u37, undef], defers := [] } ∧ Y.heap[p]? = some (.cells #[.int .i64 x.1, .int .i64 x.2] 68 (0, 0))) ?hv ?assign ?body ?done ?stop
      case st => exact fun ob1 ob2 => HI.out.below (((Below.refl _ w5).alloc (Nat.le_refl _) ob1).alloc (by simp) ob2)
      case i =>
        rintro s A B row ⟨h1, h2⟩ hg hr
        refine ⟨h1.grown HW5.out.2 hg (fun r e => ⟨by have := (hr r e).1; have := HW5.out.1; omega, (hr r e).2⟩), fun D hDm => ?_⟩
        have h3 := h2 D hDm
        exact (hg.block D (Array.getElem?_eq_some_iff.1 h3).1 (fun q => by have := (hr D q.symm).1; have := (HD5.out D hDm).1.2; omega)).trans h3
      case ii =>
        rintro s A B ⟨h1, h2⟩ k'
        exact ⟨h1.own HW5.out.2 k' (by have := HW5.out.1; omega) (by decide), fun D hDm => (k'.low D (by have := (HD5.out D hDm).1.2; omega)).trans (h2 D hDm)⟩
      case h0 => exact ⟨by rw [List.append_nil]; exact HR5.out, fun D hDm => (HD5.out D hDm).2⟩
      case hv =>
        rintro x a' _ A B row ⟨p, h1, h2⟩ hg hr
        refine ⟨p, h1, (hg.block p (Array.getElem?_eq_some_iff.1 h2).1 (fun q => ?_)).trans h2⟩
        obtain ⟨_, o1, ho, hoc⟩ := hr p q.symm
        rw [h2] at ho; cases ho; cases hoc
      case assign =>
        intro l' pre x Y K hI' hK
        unfold p2V
        gi_wp2
        exact hK _ _ ((Below.refl _ Y).alloc (Nat.le_refl _) _) ⟨Y.heap.size, rfl, heap_alloc_new _ _⟩
      case body =>
        rintro l' pre x a' Y ⟨hRG, hDs⟩ ⟨p, rfl, hp⟩ hlt
        have hlen : pre.length + 1 ≤ (clL dr TL).length := by have := hlt.length_le; simpa using this
        have hln : (P0 ++ pre).length + 1 ≤ 45384 := by rw [List.length_append]; have := HPL.out; omega
        have hln2 : (pre.length + P0.length) + 1 ≤ 45384 := by have := HPL.out; omega
        obtain ⟨NN, hNN⟩ : ∃ m, (P0 ++ pre).length = m := ⟨_, rfl⟩
        rw [hNN] at hRG hln
        obtain ⟨hbse, v, hv, hrow⟩ := hRG
        obtain ⟨i0, hi0, hz0, hz1, hz2⟩ := info_parts info_p22
        have t0 := hv.cell
        have p0 := cellH hp 0
        have p1 := cellH hp 1
        simp only [List.getElem?_toArray, List.getElem?_cons_zero, List.getElem?_cons_succ] at p0 p1
        have HBSE := Lib.hid hbse
        have HVV := Lib.hid hv
        have HROW := Lib.hid hrow
        have HDS := Lib.hid hDs
        have hsz := hbse.2.1
        have hrk : (Y.alloc (.cells #[.int .i64 x.1, .int .i64 x.2] 68)).ownsRow W1.heap.size 68 2 v NN ((P0 ++ pre).flatMap enc2) := hrow.alloc _
        have hnw : ∀ (j : Nat) (u : Value), [Value.int .i64 x.1, Value.int .i64 x.2][j]? = some u → (Y.alloc (.cells #[.int .i64 x.1, .int .i64 x.2] 68)).cell? ((⟨Y.heap.size, 0, none⟩ : Addr).add j) = some u := fun j u h => cell_two2 Y _ _ _ j u h
        clear hbse hv hrow hDs hlt hlen hp
        gi_wp2_with (gi_at_builtin; refine wpListIn_append_own_at _ rfl _ _ 60 rfl W1.heap.size 68 i0 (.agg #[.int .i64 0, .int .i64 0]) 2 16 Tryz.underlying60 hi0 hz0 hz1 hz2 rfl (by decide) _ _ _ rfl hrk ⟨Y.heap.size, 0, none⟩ 1 1 [.int .i64 x.1, .int .i64 x.2] rfl rfl hnw (by simp [Value.oneCell']) (by unfold maxLen; omega) (by omega) (by simp; omega) ?_; intro v' w10 hown' hgrow _ hat; obtain ⟨g', cap', rfl⟩ := ownsRow_succ hown'; obtain ⟨r1, r2, r3, r4⟩ := RgQ.appended (Y := Y) (o2 := .cells #[.int .i64 x.1, .int .i64 x.2] 68) HBSE.out HVV.out HROW.out HW5.out.2 hown' hgrow pK (by unfold pK; rintro (h | h) <;> exact absurd h (by decide)) (fun g _ => by unfold pK; rintro (h | h) <;> exact absurd h (by decide)); have hc1 := r4.cell; have hf1 := r4.frozen)
        have e1 : (P0 ++ (pre ++ [x])).length = NN + 1 := by rw [← hNN]; simp; omega
        have e2 : (P0 ++ (pre ++ [x])).flatMap enc2 = (P0 ++ pre).flatMap enc2 ++ [.int .i64 x.1, .int .i64 x.2] := by rw [← List.append_assoc, List.flatMap_append]; rfl
        refine ⟨⟨r1.size, fun k o hB hk ho => r1.same k o (by have := HW5.out.1; omega) hk ho⟩, r2, ?_, fun D hDm => r1.same D _ (HD5.out D hDm).1.1 (HDS.out D hDm) rfl⟩
        rw [e1, e2]
        exact r3
      case stop => exact fun D c pre Y hD hpre h hK => h.elim
      case done =>
        rintro D Y hD ⟨hRG, hDs⟩ hK
        have HRG := Lib.hid hRG
        have HDS := Lib.hid hDs
        have HKK := Lib.hid hK
        have HDD := Lib.hid hD
        clear hRG hDs hK hD
        simp only [Exit.inBlock, Exit.then]
        gi_wp2
        refine ⟨⟨k + 1, D :: Ds, ⟨HKL.out, Lib.hid ?_, Lib.hid ⟨List.nodup_cons.2 ⟨fun hm => by have := (HD5.out D hm).1.2; have := HDD.out; omega, HND.out⟩, fun D' hm => ?_⟩⟩, by simp, rfl⟩, ?_⟩
        · rw [HSTEP.out, HNE.out]; exact HRG.out
        · rcases List.mem_cons.1 hm with rfl | hm
          · exact ⟨by have := HW5.out.1; have := HDD.out; omega, HKK.out⟩
          · exact ⟨(HD5.out D' hm).1.1, HDS.out D' hm⟩
        · have := HKL.out; simp [intOf]; omega
    · obtain rfl : k = cs.length := by omega
      have HDD := Lib.hid hD.out
      have HLW := Lib.hid (hR.out.low HXB.out (by have := HX3.out; omega) (by have := HX3.out; omega))
      have hWW := HXB.out.size
      obtain ⟨hbse, v, hv, hrow⟩ := hR.out
      have t0 := hv.cell
      have HP := Lib.hid (P2Row.of_own hrow)
      rw [HLL.out] at HP
      clear hbse hv hrow hR hD
      gi_wp2
      go_wp2_with fail
      try rw [Exit.noGoto_ret]
      exact leaves_marks5 (F := Fence.wide) (n := 7) w.heap.size Ds _ HDD.out.1 (fun D' hD' => ⟨by have := (HDD.out.2 D' hD').1; omega, (HDD.out.2 D' hD').2⟩) (fun W' hk hb' => ⟨_, by simp [results, Tryz.results26, go_sem], HLW.out.trans hb', v, rfl, HP.out.kc5 hk⟩)
end Go.Proofs.YtebdboacmeafaaaGreat
/- Package firetowerlaw05: the values of the chapter's example. -/
set_option linter.unusedVariables false
set_option linter.unusedSimpArgs false
namespace Go.Proofs.YtebdboacmeafaaaGreat
open Go Go.RowKit

def exC : List Ci := [⟨1, 10, 10, 0, 1000, -5, 5, 6⟩]
def exK : List Ck := [⟨7, 1, 100, 20, 15, 230, 2⟩]
def exK2 : List Ck := [⟨7, 1, 100, 20, 15, 230, 2⟩, ⟨9, 1, 105, 20, 15, 240, 2⟩]
theorem ex_v1 : dvV 10 10 7 9 = .tuple #[.int .i64 1950, .bool true] := by kernel_rfl
theorem ex_v2 : alnV exC exK 7 = .tuple #[.agg #[.int .i64 3, .int .i64 7], .int .i64 0] := by kernel_rfl
theorem ex_v3 : zrV exC exK 1 130 = .tuple #[.agg #[.int .i64 0, .int .i64 10], .int .i64 0] := by kernel_rfl
theorem ex_v4 : rsV exC exK 1 130 = .tuple #[.int .i64 7, .int .i64 7, .int .i64 0] := by kernel_rfl
theorem ex_v5 : wgV exC exK 1 100 900 1 = .tuple #[.agg #[.int .i64 892, .int .i64 898], .int .i64 0] := by kernel_rfl
theorem ex_v6 : vcX 2000 = -450 ∧ vcY 2000 = -200 := by decide
theorem ex_v7 : shB 10 10 20 15 3 2 = true ∧ shLo 10 10 20 15 3 2 = 226 ∧ shHi 10 10 20 15 3 2 = 230 := by decide
theorem ex_v8 : clK exC exK2 1 = [(7, 9)] := by decide
theorem ex_v9 : ccE exC exK2 = 0 := by decide
end Go.Proofs.YtebdboacmeafaaaGreat
