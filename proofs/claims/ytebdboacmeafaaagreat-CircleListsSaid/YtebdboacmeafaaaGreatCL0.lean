/- The law CircleLists. -/
import Derived.Test.YtebdboacmeafaaaGreatCJ9
import Derived.Test.YtebdboacmeafaaaGreatCJ8
import Derived.Test.YtebdboacmeafaaaGreatCJ3
import Derived.Test.YtebdboacmeafaaaGreatCI7
import Derived.Test.YtebdboacmeafaaaGreatCF1
import Derived.Test.YtebdboacmeafaaaGreatCKB
import Derived.Laws.StructEq
set_option linter.unusedVariables false
set_option linter.unusedSimpArgs false
namespace Go.Proofs.YtebdboacmeafaaaGreat
open Go Go.RowKit

def ShOut (e : Ending) : Prop := ∃ B, e = .returned (.bool B)
theorem ShOut.mk {e : Ending} {B : Bool} (h : e = .returned (.bool B)) : ShOut e := ⟨B, h⟩
set_option maxRecDepth 100000 in
set_option maxHeartbeats 8000000 in
theorem short_any (lo hi m : Int) (w : World) :
    Calls Tryz.prog 14 #[.agg #[.int .i64 lo, .int .i64 hi], .int .i64 m] w fun e w' => ShOut e ∧ Below w.heap.size w w' := by
  have gw : IntKind.i64.wrap (hi - lo) = IntKind.i64.wrap (hi - lo) := rfl
  obtain ⟨D, hD⟩ : ∃ q, IntKind.i64.wrap (hi - lo) = q := ⟨_, rfl⟩
  clear gw
  obtain ⟨x0, xlt, xb⟩ := cells1 w #[.int .i64 lo, .int .i64 hi] 36 (Below.refl _ _)
  have HNs : Hid ((w.alloc (.cells #[.int .i64 lo, .int .i64 hi] 36)).heap[w.heap.size]? = some (.cells #[.int .i64 lo, .int .i64 hi] 36 (0, 0))) := Lib.hid x0
  have HB : Hid (Below w.heap.size w (w.alloc (.cells #[.int .i64 lo, .int .i64 hi] 36))) := Lib.hid xb
  obtain ⟨Z, hZ⟩ : ∃ Z, (w.alloc (.cells #[.int .i64 lo, .int .i64 hi] 36)) = Z := ⟨_, rfl⟩
  rw [hZ] at HB HNs
  have HZ := Lib.hid hZ
  clear hZ xlt xb x0
  go_enter Tryz.func14, Tryz.ntmps14
  by_cases q0 : hi < lo
  case pos =>
    have zs0 := cellH HNs.out 0
    have zs1 := cellH HNs.out 1
    simp only [List.getElem?_toArray, List.getElem?_cons_zero, List.getElem?_cons_succ] at zs0 zs1
    go_wp2_with fail
    go_ret
    exact ⟨ShOut.mk rfl, by first | exact HB.out | (rw [HZ.out]; exact HB.out)⟩
  by_cases q1 : lo < 0
  case pos =>
    have zs0 := cellH HNs.out 0
    have zs1 := cellH HNs.out 1
    simp only [List.getElem?_toArray, List.getElem?_cons_zero, List.getElem?_cons_succ] at zs0 zs1
    go_wp2_with fail
    go_ret
    exact ⟨ShOut.mk rfl, by first | exact HB.out | (rw [HZ.out]; exact HB.out)⟩
  by_cases q2 : 1048576 < hi
  case pos =>
    have zs0 := cellH HNs.out 0
    have zs1 := cellH HNs.out 1
    simp only [List.getElem?_toArray, List.getElem?_cons_zero, List.getElem?_cons_succ] at zs0 zs1
    go_wp2_with fail
    go_ret
    exact ⟨ShOut.mk rfl, by first | exact HB.out | (rw [HZ.out]; exact HB.out)⟩
  by_cases q3 : D < m
  case pos =>
    have zs0 := cellH HNs.out 0
    have zs1 := cellH HNs.out 1
    simp only [List.getElem?_toArray, List.getElem?_cons_zero, List.getElem?_cons_succ] at zs0 zs1
    go_wp2_with fail
    go_ret
    exact ⟨ShOut.mk rfl, by first | exact HB.out | (rw [HZ.out]; exact HB.out)⟩
  by_cases q4 : 400 ≤ D
  case pos =>
    have zs0 := cellH HNs.out 0
    have zs1 := cellH HNs.out 1
    simp only [List.getElem?_toArray, List.getElem?_cons_zero, List.getElem?_cons_succ] at zs0 zs1
    go_wp2_with fail
    go_ret
    exact ⟨ShOut.mk rfl, by first | exact HB.out | (rw [HZ.out]; exact HB.out)⟩
  have zs0 := cellH HNs.out 0
  have zs1 := cellH HNs.out 1
  simp only [List.getElem?_toArray, List.getElem?_cons_zero, List.getElem?_cons_succ] at zs0 zs1
  go_wp2_with fail
  go_ret
  exact ⟨ShOut.mk rfl, by first | exact HB.out | (rw [HZ.out]; exact HB.out)⟩
theorem sameZ_any (v u : Value) (a b : Int) (l : List Int) (w : World) (hv : INRow w v l) (hu : INRow w u l) (hl : l.length ≤ 1000000) :
    Calls Tryz.prog 20 #[.agg #[.int .i64 a, .int .i64 b, v], .agg #[.int .i64 a, .int .i64 b, u]] w fun e w' => e = .returned (.bool true) ∧ Below w.heap.size w w' :=
  (pSameZeros_any v u a b a b l l w hv hu hl hl).mono fun e w' h => ⟨by rw [h.1]; simp, h.2⟩
theorem spN_perm (z : Ci) (ks : List Ck) (lo : Int) (n : Nat) : spN z.dr (dlL z ks) lo n = spN z.dr (thL z ks) lo n := by
  have h := fun t => sp_perm z.dr t (srtH_perm (thL z ks))
  change ∀ t, spLo z.dr (dlL z ks) t = spLo z.dr (thL z ks) t ∧ spHi z.dr (dlL z ks) t = spHi z.dr (thL z ks) t at h
  unfold spN
  apply List.map_congr_left
  intro j _
  rw [(h _).1, (h _).2]
theorem sn_few {cs : List Ci} {ks : List Ck} {id lo hi : Int} (h : snE cs ks id lo hi = 0) : hi - lo < 400 := by
  obtain ⟨h1, h2⟩ := sn_use (cs := cs) (ks := ks) (id := id) (lo := lo) (hi := hi)
  by_cases hu : usE cs ks id lo hi = 0
  · obtain ⟨z, _, _, _, h5, _⟩ := h2 hu
    refine Int.not_le.1 fun h4 => ?_
    rw [h5 h4] at h; cases h
  · exact absurd ((h1 hu).symm.trans h) hu
/-- The zeros that Lowest and Highest answer. -/
def liL (cs : List Ci) (ks : List Ck) (id lo hi : Int) (high : Bool) : List Int := if snE cs ks id lo hi = 0 then (spN ((ciF cs id).getD .nil).dr (thL ((ciF cs id).getD .nil) ks) lo (hi - lo + 1).toNat).map (enP high) else []
theorem liL_len (cs : List Ci) (ks : List Ck) (id lo hi : Int) (high : Bool) : (liL cs ks id lo hi high).length ≤ 1000000 := by
  unfold liL
  split
  · rename_i h
    have := sn_few h
    rw [List.length_map, spN_len]; omega
  · simp
def ZvOut (c t : Int) (L : List Int) (E : Int) (w : World) (e : Ending) (w' : World) : Prop := ∃ p q, e = .returned (.tuple #[.agg #[.int .i64 c, .int .i64 t, .slice p L.length q], .int .i64 E]) ∧ INRow w' (.slice p L.length q) L ∧ Below w.heap.size w w'
def ZwOut (c t : Int) (L : List Int) (E : Int) (w : World) (e : Ending) (w' : World) : Prop := ∃ p q, e = .returned (.agg #[.int .i64 c, .int .i64 t, .slice p L.length q, .int .i64 E]) ∧ INRow w' (.slice p L.length q) L ∧ Below w.heap.size w w'
def liC (cs : List Ci) (ks : List Ck) (id lo hi : Int) : Int := if snE cs ks id lo hi = 0 then id else 0
def liT (cs : List Ci) (ks : List Ck) (id lo hi : Int) : Int := if snE cs ks id lo hi = 0 then lo else 0
theorem nil_row (w : World) : INRow w (.slice none 0 0) [] := .inl ⟨_, _, rfl, rfl⟩
theorem EnOut.zv {cs : List Ci} {ks : List Ck} {id lo hi : Int} {high : Bool} {G : Pi2 → Int} (hG : G = enP high) {w w' : World} {e : Ending} (h : EnOut cs ks id lo hi G w e w') : ZvOut (liC cs ks id lo hi) (liT cs ks id lo hi) (liL cs ks id lo hi high) (snE cs ks id lo hi) w e w' := by
  obtain ⟨hb, h1, h2⟩ := h
  unfold liC liT liL
  by_cases h : snE cs ks id lo hi = 0
  · obtain ⟨z, v, hf, he, hp⟩ := h2 h
    simp only [h, if_true]
    rw [hf]
    have h3 := hp.row
    rw [spN_perm, hG] at h3
    obtain ⟨p, q, rfl, _⟩ := h3.form
    exact ⟨p, q, he, h3, hb⟩
  · simp only [h, if_false]
    exact ⟨_, _, h1 h, nil_row _, hb⟩
theorem ExOut.zw {cs : List Ci} {ks : List Ck} {id lo hi : Int} {high : Bool} {w w' : World} {e : Ending} (h : ExOut cs ks id lo hi high w e w') : ZwOut (liC cs ks id lo hi) (liT cs ks id lo hi) (liL cs ks id lo hi high) (snE cs ks id lo hi) w e w' := by
  obtain ⟨hb, h1, h2⟩ := h
  unfold liC liT liL
  by_cases h : snE cs ks id lo hi = 0
  · obtain ⟨z, v, hf, he, hp⟩ := h2 h
    simp only [h, if_true]
    rw [hf]
    obtain ⟨p, q, rfl, _⟩ := hp.form
    exact ⟨p, q, he, hp, hb⟩
  · simp only [h, if_false]
    exact ⟨_, _, h1 h, nil_row _, hb⟩
set_option maxRecDepth 100000 in
set_option maxHeartbeats 8000000 in
theorem lists_card (v1 v2 : Value) (cs : List Ci) (ks : List Ck) (id lo hi zc zt : Int) (zv : Value) (zl : List Int) (w : World) (hv1 : CiRow w v1 cs) (hv2 : CkRow w v2 ks) (hl1 : cs.length ≤ 9223372036854775807) (hl2 : ks.length ≤ 9223372036854775807) (hid : -9223372036854775808 ≤ id ∧ id ≤ 9223372036854775807) (hlo : -9223372036854775808 ≤ lo ∧ lo ≤ 9223372036854775807) (hhi : -9223372036854775808 ≤ hi ∧ hi ≤ 9223372036854775807) (hz : INRow w zv zl) (hcap : P2Cap zv) (hzl : zl.length ≤ 9223372036854775807) (hzt : -9223372036854775808 ≤ zt ∧ zt ≤ 9223372036854775807) :
    Calls Tryz.prog 4 #[.agg #[v1, v2], .int .i64 id, .agg #[.int .i64 lo, .int .i64 hi], .agg #[.int .i64 zc, .int .i64 zt, zv]] w fun e w' => e = .returned (.bool true) ∧ Below w.heap.size w w' := by
  obtain ⟨a1, c1, rfl, _⟩ := hv1.form
  obtain ⟨a2, c2, rfl, _⟩ := hv2.form
  obtain ⟨za, zcp, rfl, _⟩ := hz.form
  have HF := Lib.hid (fun w' => few_any a1 a2 cs.length c1 ks.length c2 w')
  have HS := Lib.hid (fun w' => short_any lo hi 60 w')
  have H1 := Lib.hid (fun w' (h : Below w.heap.size w w') => (Lowest_any (.slice a1 cs.length c1) (.slice a2 ks.length c2) cs ks id lo hi w' (hv1.keep h) (hv2.keep h) hl1 hl2).mono fun e w'' h => h.zv (high := false) rfl)
  have H2 := Lib.hid (fun w' (h : Below w.heap.size w w') => (Extreme_any (.slice a1 cs.length c1) (.slice a2 ks.length c2) cs ks id lo hi false w' (hv1.keep h) (hv2.keep h) hl1 hl2).mono fun e w'' h => h.zw)
  have H3 := Lib.hid (fun w' (h : Below w.heap.size w w') => (Highest_any (.slice a1 cs.length c1) (.slice a2 ks.length c2) cs ks id lo hi w' (hv1.keep h) (hv2.keep h) hl1 hl2).mono fun e w'' h => h.zv (high := true) rfl)
  have H4 := Lib.hid (fun w' (h : Below w.heap.size w w') => (Extreme_any (.slice a1 cs.length c1) (.slice a2 ks.length c2) cs ks id lo hi true w' (hv1.keep h) (hv2.keep h) hl1 hl2).mono fun e w'' h => h.zw)
  have H5 := Lib.hid (fun w' => sanity_any w')
  have H6 := Lib.hid (fun w' (h : Below w.heap.size w w') => Fits_any (.slice a1 cs.length c1) (.slice a2 ks.length c2) (.slice za zl.length zcp) cs ks zc zt zl w' (hv1.keep h) (hv2.keep h) (INRow.keep hz h) hcap hl1 hl2 hzl hzt)
  have H7 := Lib.hid (fun w' (h : Below w.heap.size w w') => pFits_any (.slice a1 cs.length c1) (.slice a2 ks.length c2) (.slice za zl.length zcp) cs ks zc zt zl w' (hv1.keep h) (hv2.keep h) (INRow.keep hz h) hl1 hl2 hzl hzt)
  have HLF := Lib.hid (liL_len cs ks id lo hi false)
  have HLT := Lib.hid (liL_len cs ks id lo hi true)
  unfold ZvOut at H1 H3
  unfold ZwOut at H2 H4
  obtain ⟨E, hE⟩ : ∃ z, snE cs ks id lo hi = z := ⟨_, rfl⟩
  obtain ⟨C, hC⟩ : ∃ z, liC cs ks id lo hi = z := ⟨_, rfl⟩
  obtain ⟨T, hT⟩ : ∃ z, liT cs ks id lo hi = z := ⟨_, rfl⟩
  obtain ⟨LF, hLF⟩ : ∃ z, liL cs ks id lo hi false = z := ⟨_, rfl⟩
  obtain ⟨LT, hLT⟩ : ∃ z, liL cs ks id lo hi true = z := ⟨_, rfl⟩
  obtain ⟨FN, hFN⟩ : ∃ z, (ftR cs ks zc zt zl).1 = z := ⟨_, rfl⟩
  obtain ⟨FB, hFB⟩ : ∃ z, (ftR cs ks zc zt zl).2 = z := ⟨_, rfl⟩
  rw [hE, hC, hT, hLF] at H1 H2
  rw [hE, hC, hT, hLT] at H3 H4
  rw [hLF] at HLF
  rw [hLT] at HLT
  rw [hFN, hFB] at H6 H7
  obtain ⟨n, hn⟩ : ∃ n, cs.length = n := ⟨_, rfl⟩
  obtain ⟨m, hm⟩ : ∃ n, ks.length = n := ⟨_, rfl⟩
  obtain ⟨nz, hnz⟩ : ∃ n, zl.length = n := ⟨_, rfl⟩
  rw [hn, hm] at HF H1 H2 H3 H4 H6 H7 ⊢
  rw [hnz] at H6 H7 ⊢
  obtain ⟨B, hB⟩ : ∃ B, fwB n m = B := ⟨_, rfl⟩
  rw [hB] at HF
  clear hv1 hv2 hz hcap hl1 hl2 hzl hzt hE hC hT hLF hLT hFN hFB hn hm hnz hB
  obtain ⟨x0, x1, x2, xlt, xb⟩ := cells3 w #[.slice a1 n c1, .slice a2 m c2] #[.int .i64 lo, .int .i64 hi] #[.int .i64 zc, .int .i64 zt, .slice za nz zcp] 25 36 38 (Below.refl _ _)
  have HNc : Hid ((((w.alloc (.cells #[.slice a1 n c1, .slice a2 m c2] 25)).alloc (.cells #[.int .i64 lo, .int .i64 hi] 36)).alloc (.cells #[.int .i64 zc, .int .i64 zt, .slice za nz zcp] 38)).heap[w.heap.size]? = some (.cells #[.slice a1 n c1, .slice a2 m c2] 25 (0, 0))) := Lib.hid x0
  have HNs : Hid ((((w.alloc (.cells #[.slice a1 n c1, .slice a2 m c2] 25)).alloc (.cells #[.int .i64 lo, .int .i64 hi] 36)).alloc (.cells #[.int .i64 zc, .int .i64 zt, .slice za nz zcp] 38)).heap[w.heap.size + 1]? = some (.cells #[.int .i64 lo, .int .i64 hi] 36 (0, 0))) := Lib.hid x1
  have HNz : Hid ((((w.alloc (.cells #[.slice a1 n c1, .slice a2 m c2] 25)).alloc (.cells #[.int .i64 lo, .int .i64 hi] 36)).alloc (.cells #[.int .i64 zc, .int .i64 zt, .slice za nz zcp] 38)).heap[w.heap.size + 1 + 1]? = some (.cells #[.int .i64 zc, .int .i64 zt, .slice za nz zcp] 38 (0, 0))) := Lib.hid x2
  have HB : Hid (Below w.heap.size w (((w.alloc (.cells #[.slice a1 n c1, .slice a2 m c2] 25)).alloc (.cells #[.int .i64 lo, .int .i64 hi] 36)).alloc (.cells #[.int .i64 zc, .int .i64 zt, .slice za nz zcp] 38))) := Lib.hid xb
  obtain ⟨Z, hZ⟩ : ∃ Z, (((w.alloc (.cells #[.slice a1 n c1, .slice a2 m c2] 25)).alloc (.cells #[.int .i64 lo, .int .i64 hi] 36)).alloc (.cells #[.int .i64 zc, .int .i64 zt, .slice za nz zcp] 38)) = Z := ⟨_, rfl⟩
  rw [hZ] at HB HNc HNs HNz
  have HZ := Lib.hid hZ
  clear hZ xlt xb x0 x1 x2
  go_enter Tryz.func4, Tryz.ntmps4
  go_wp2_with fail
  rw [HZ.out]
  refine (HF.out _).mono ?_
  rintro e w1 ⟨rfl, hb⟩
  replace HB := Lib.hid (HB.out.trans (hb.mono HB.out.size))
  replace HNc := Lib.hid ((hb.block _ (Array.getElem?_eq_some_iff.1 HNc.out).1).trans HNc.out)
  replace HNs := Lib.hid ((hb.block _ (Array.getElem?_eq_some_iff.1 HNs.out).1).trans HNs.out)
  replace HNz := Lib.hid ((hb.block _ (Array.getElem?_eq_some_iff.1 HNz.out).1).trans HNz.out)
  clear hb
  cases B
  · skip
    have zc0 := cellH HNc.out 0
    have zc1 := cellH HNc.out 1
    have zs0 := cellH HNs.out 0
    have zs1 := cellH HNs.out 1
    have zz0 := cellH HNz.out 0
    have zz1 := cellH HNz.out 1
    have zz2 := cellH HNz.out 2
    simp only [List.getElem?_toArray, List.getElem?_cons_zero, List.getElem?_cons_succ] at zc0 zc1 zs0 zs1 zz0 zz1 zz2
    go_wp2_with fail
    refine (H5.out _).mono ?_
    rintro e w2 ⟨rfl, hb⟩
    clear zc0 zc1 zs0 zs1 zz0 zz1 zz2
    replace HB := Lib.hid (HB.out.trans (hb.mono HB.out.size))
    replace HNc := Lib.hid ((hb.block _ (Array.getElem?_eq_some_iff.1 HNc.out).1).trans HNc.out)
    replace HNs := Lib.hid ((hb.block _ (Array.getElem?_eq_some_iff.1 HNs.out).1).trans HNs.out)
    replace HNz := Lib.hid ((hb.block _ (Array.getElem?_eq_some_iff.1 HNz.out).1).trans HNz.out)
    clear hb
    go_wp2_with fail
    go_ret
    exact ⟨rfl, HB.out⟩
  have zs0 := cellH HNs.out 0
  have zs1 := cellH HNs.out 1
  simp only [List.getElem?_toArray, List.getElem?_cons_zero, List.getElem?_cons_succ] at zs0 zs1
  go_wp2_with fail
  refine (HS.out _).mono ?_
  rintro e w3 ⟨⟨B1, rfl⟩, hb⟩
  clear zs0 zs1
  replace HB := Lib.hid (HB.out.trans (hb.mono HB.out.size))
  replace HNc := Lib.hid ((hb.block _ (Array.getElem?_eq_some_iff.1 HNc.out).1).trans HNc.out)
  replace HNs := Lib.hid ((hb.block _ (Array.getElem?_eq_some_iff.1 HNs.out).1).trans HNs.out)
  replace HNz := Lib.hid ((hb.block _ (Array.getElem?_eq_some_iff.1 HNz.out).1).trans HNz.out)
  clear hb
  cases B1
  · skip
    have zc0 := cellH HNc.out 0
    have zc1 := cellH HNc.out 1
    have zs0 := cellH HNs.out 0
    have zs1 := cellH HNs.out 1
    have zz0 := cellH HNz.out 0
    have zz1 := cellH HNz.out 1
    have zz2 := cellH HNz.out 2
    simp only [List.getElem?_toArray, List.getElem?_cons_zero, List.getElem?_cons_succ] at zc0 zc1 zs0 zs1 zz0 zz1 zz2
    go_wp2_with fail
    refine (H5.out _).mono ?_
    rintro e w4 ⟨rfl, hb⟩
    clear zc0 zc1 zs0 zs1 zz0 zz1 zz2
    replace HB := Lib.hid (HB.out.trans (hb.mono HB.out.size))
    replace HNc := Lib.hid ((hb.block _ (Array.getElem?_eq_some_iff.1 HNc.out).1).trans HNc.out)
    replace HNs := Lib.hid ((hb.block _ (Array.getElem?_eq_some_iff.1 HNs.out).1).trans HNs.out)
    replace HNz := Lib.hid ((hb.block _ (Array.getElem?_eq_some_iff.1 HNz.out).1).trans HNz.out)
    clear hb
    go_wp2_with fail
    go_ret
    exact ⟨rfl, HB.out⟩
  by_cases q1 : 60 < nz
  case pos =>
    have gz : (60 : Int) < nz := by omega
    by_cases q2 : nz ≤ 400
    case pos =>
      have gz2 : (nz : Int) ≤ 400 := by omega
      clear q1 q2
      have zc0 := cellH HNc.out 0
      have zc1 := cellH HNc.out 1
      have zs0 := cellH HNs.out 0
      have zs1 := cellH HNs.out 1
      have zz0 := cellH HNz.out 0
      have zz1 := cellH HNz.out 1
      have zz2 := cellH HNz.out 2
      simp only [List.getElem?_toArray, List.getElem?_cons_zero, List.getElem?_cons_succ] at zc0 zc1 zs0 zs1 zz0 zz1 zz2
      go_wp2_with fail
      refine (H5.out _).mono ?_
      rintro e w5 ⟨rfl, hb⟩
      clear zc0 zc1 zs0 zs1 zz0 zz1 zz2
      replace HB := Lib.hid (HB.out.trans (hb.mono HB.out.size))
      replace HNc := Lib.hid ((hb.block _ (Array.getElem?_eq_some_iff.1 HNc.out).1).trans HNc.out)
      replace HNs := Lib.hid ((hb.block _ (Array.getElem?_eq_some_iff.1 HNs.out).1).trans HNs.out)
      replace HNz := Lib.hid ((hb.block _ (Array.getElem?_eq_some_iff.1 HNz.out).1).trans HNz.out)
      clear hb
      go_wp2_with fail
      go_ret
      exact ⟨rfl, HB.out⟩
    have gz2 : ¬ (nz : Int) ≤ 400 := by omega
    clear q2
    clear q1
    have zc0 := cellH HNc.out 0
    have zc1 := cellH HNc.out 1
    have zs0 := cellH HNs.out 0
    have zs1 := cellH HNs.out 1
    have zz0 := cellH HNz.out 0
    have zz1 := cellH HNz.out 1
    have zz2 := cellH HNz.out 2
    simp only [List.getElem?_toArray, List.getElem?_cons_zero, List.getElem?_cons_succ] at zc0 zc1 zs0 zs1 zz0 zz1 zz2
    go_wp2_with fail
    refine (H1.out _ HB.out).mono ?_
    rintro e w6 ⟨p1, q1, rfl, hp1, hb⟩
    clear zc0 zc1 zs0 zs1 zz0 zz1 zz2
    replace HB := Lib.hid (HB.out.trans (hb.mono HB.out.size))
    replace HNc := Lib.hid ((hb.block _ (Array.getElem?_eq_some_iff.1 HNc.out).1).trans HNc.out)
    replace HNs := Lib.hid ((hb.block _ (Array.getElem?_eq_some_iff.1 HNs.out).1).trans HNs.out)
    replace HNz := Lib.hid ((hb.block _ (Array.getElem?_eq_some_iff.1 HNz.out).1).trans HNz.out)
    clear hb
    have HP1 := Lib.hid hp1
    clear hp1
    have hAlc : Below w6.heap.size w6 (w6.alloc (.cells #[.int .i64 C, .int .i64 T, .slice p1 LF.length q1] 38)) := (Below.refl _ w6).alloc (Nat.le_refl _) _
    have HSa : Hid (w.heap.size ≤ w6.heap.size) := Lib.hid HB.out.size
    have HNa : Hid ((w6.alloc (.cells #[.int .i64 C, .int .i64 T, .slice p1 LF.length q1] 38)).heap[w6.heap.size]? = some (.cells #[.int .i64 C, .int .i64 T, .slice p1 LF.length q1] 38 (0, 0))) := Lib.hid (heap_alloc_new _ _)
    replace HB := Lib.hid (HB.out.trans (hAlc.mono HB.out.size))
    have HXc_a : Hid (w.heap.size ≠ w6.heap.size) := Lib.hid (Nat.ne_of_lt (Array.getElem?_eq_some_iff.1 HNc.out).1)
    have HXs_a : Hid (w.heap.size + 1 ≠ w6.heap.size) := Lib.hid (Nat.ne_of_lt (Array.getElem?_eq_some_iff.1 HNs.out).1)
    have HXz_a : Hid (w.heap.size + 1 + 1 ≠ w6.heap.size) := Lib.hid (Nat.ne_of_lt (Array.getElem?_eq_some_iff.1 HNz.out).1)
    replace HNc := Lib.hid ((hAlc.block _ (Array.getElem?_eq_some_iff.1 HNc.out).1).trans HNc.out)
    replace HNs := Lib.hid ((hAlc.block _ (Array.getElem?_eq_some_iff.1 HNs.out).1).trans HNs.out)
    replace HNz := Lib.hid ((hAlc.block _ (Array.getElem?_eq_some_iff.1 HNz.out).1).trans HNz.out)
    replace HP1 := Lib.hid (HP1.out.keep hAlc)
    obtain ⟨aa, haa⟩ : ∃ qq, w6.alloc (.cells #[.int .i64 C, .int .i64 T, .slice p1 LF.length q1] 38) = qq := ⟨_, rfl⟩
    obtain ⟨bka, hba⟩ : ∃ qq, w6.heap.size = qq := ⟨_, rfl⟩
    rw [haa] at HB HNa HNc HNs HNz HP1
    rw [hba] at HNa HSa HXc_a HXs_a HXz_a
    clear hAlc
    have zc0 := cellH HNc.out 0
    have zc1 := cellH HNc.out 1
    have zs0 := cellH HNs.out 0
    have zs1 := cellH HNs.out 1
    simp only [List.getElem?_toArray, List.getElem?_cons_zero, List.getElem?_cons_succ] at zc0 zc1 zs0 zs1
    go_wp2_with fail
    try clear haa hba
    refine (H2.out _ HB.out).mono ?_
    rintro e w7 ⟨p2, q2, rfl, hp2, hb⟩
    clear zc0 zc1 zs0 zs1
    replace HB := Lib.hid (HB.out.trans (hb.mono HB.out.size))
    replace HNc := Lib.hid ((hb.block _ (Array.getElem?_eq_some_iff.1 HNc.out).1).trans HNc.out)
    replace HNs := Lib.hid ((hb.block _ (Array.getElem?_eq_some_iff.1 HNs.out).1).trans HNs.out)
    replace HNz := Lib.hid ((hb.block _ (Array.getElem?_eq_some_iff.1 HNz.out).1).trans HNz.out)
    replace HNa := Lib.hid ((hb.block _ (Array.getElem?_eq_some_iff.1 HNa.out).1).trans HNa.out)
    replace HP1 := Lib.hid (HP1.out.keep hb)
    clear hb
    have HP2 := Lib.hid hp2
    clear hp2
    have hAlc : Below w7.heap.size w7 (w7.alloc (.cells #[.int .i64 C, .int .i64 T, .slice p2 LF.length q2, .int .i64 E] 43)) := (Below.refl _ w7).alloc (Nat.le_refl _) _
    have HSx : Hid (w.heap.size ≤ w7.heap.size) := Lib.hid HB.out.size
    have HNx : Hid ((w7.alloc (.cells #[.int .i64 C, .int .i64 T, .slice p2 LF.length q2, .int .i64 E] 43)).heap[w7.heap.size]? = some (.cells #[.int .i64 C, .int .i64 T, .slice p2 LF.length q2, .int .i64 E] 43 (0, 0))) := Lib.hid (heap_alloc_new _ _)
    replace HB := Lib.hid (HB.out.trans (hAlc.mono HB.out.size))
    have HXc_x : Hid (w.heap.size ≠ w7.heap.size) := Lib.hid (Nat.ne_of_lt (Array.getElem?_eq_some_iff.1 HNc.out).1)
    have HXs_x : Hid (w.heap.size + 1 ≠ w7.heap.size) := Lib.hid (Nat.ne_of_lt (Array.getElem?_eq_some_iff.1 HNs.out).1)
    have HXz_x : Hid (w.heap.size + 1 + 1 ≠ w7.heap.size) := Lib.hid (Nat.ne_of_lt (Array.getElem?_eq_some_iff.1 HNz.out).1)
    have HXa_x : Hid (bka ≠ w7.heap.size) := Lib.hid (Nat.ne_of_lt (Array.getElem?_eq_some_iff.1 HNa.out).1)
    replace HNc := Lib.hid ((hAlc.block _ (Array.getElem?_eq_some_iff.1 HNc.out).1).trans HNc.out)
    replace HNs := Lib.hid ((hAlc.block _ (Array.getElem?_eq_some_iff.1 HNs.out).1).trans HNs.out)
    replace HNz := Lib.hid ((hAlc.block _ (Array.getElem?_eq_some_iff.1 HNz.out).1).trans HNz.out)
    replace HNa := Lib.hid ((hAlc.block _ (Array.getElem?_eq_some_iff.1 HNa.out).1).trans HNa.out)
    replace HP1 := Lib.hid (HP1.out.keep hAlc)
    replace HP2 := Lib.hid (HP2.out.keep hAlc)
    obtain ⟨ax, hax⟩ : ∃ qq, w7.alloc (.cells #[.int .i64 C, .int .i64 T, .slice p2 LF.length q2, .int .i64 E] 43) = qq := ⟨_, rfl⟩
    obtain ⟨bkx, hbx⟩ : ∃ qq, w7.heap.size = qq := ⟨_, rfl⟩
    rw [hax] at HB HNx HNc HNs HNz HNa HP1 HP2
    rw [hbx] at HNx HSx HXc_x HXs_x HXz_x HXa_x
    clear hAlc
    have zc0 := cellH HNc.out 0
    have zc1 := cellH HNc.out 1
    have zs0 := cellH HNs.out 0
    have zs1 := cellH HNs.out 1
    simp only [List.getElem?_toArray, List.getElem?_cons_zero, List.getElem?_cons_succ] at zc0 zc1 zs0 zs1
    go_wp2_with fail
    try clear hax hbx
    refine (H3.out _ HB.out).mono ?_
    rintro e w8 ⟨p3, q3, rfl, hp3, hb⟩
    clear zc0 zc1 zs0 zs1
    replace HB := Lib.hid (HB.out.trans (hb.mono HB.out.size))
    replace HNc := Lib.hid ((hb.block _ (Array.getElem?_eq_some_iff.1 HNc.out).1).trans HNc.out)
    replace HNs := Lib.hid ((hb.block _ (Array.getElem?_eq_some_iff.1 HNs.out).1).trans HNs.out)
    replace HNz := Lib.hid ((hb.block _ (Array.getElem?_eq_some_iff.1 HNz.out).1).trans HNz.out)
    replace HNa := Lib.hid ((hb.block _ (Array.getElem?_eq_some_iff.1 HNa.out).1).trans HNa.out)
    replace HNx := Lib.hid ((hb.block _ (Array.getElem?_eq_some_iff.1 HNx.out).1).trans HNx.out)
    replace HP1 := Lib.hid (HP1.out.keep hb)
    replace HP2 := Lib.hid (HP2.out.keep hb)
    clear hb
    have HP3 := Lib.hid hp3
    clear hp3
    have hAlc : Below w8.heap.size w8 (w8.alloc (.cells #[.int .i64 C, .int .i64 T, .slice p3 LT.length q3] 38)) := (Below.refl _ w8).alloc (Nat.le_refl _) _
    have HSb : Hid (w.heap.size ≤ w8.heap.size) := Lib.hid HB.out.size
    have HNb : Hid ((w8.alloc (.cells #[.int .i64 C, .int .i64 T, .slice p3 LT.length q3] 38)).heap[w8.heap.size]? = some (.cells #[.int .i64 C, .int .i64 T, .slice p3 LT.length q3] 38 (0, 0))) := Lib.hid (heap_alloc_new _ _)
    replace HB := Lib.hid (HB.out.trans (hAlc.mono HB.out.size))
    have HXc_b : Hid (w.heap.size ≠ w8.heap.size) := Lib.hid (Nat.ne_of_lt (Array.getElem?_eq_some_iff.1 HNc.out).1)
    have HXs_b : Hid (w.heap.size + 1 ≠ w8.heap.size) := Lib.hid (Nat.ne_of_lt (Array.getElem?_eq_some_iff.1 HNs.out).1)
    have HXz_b : Hid (w.heap.size + 1 + 1 ≠ w8.heap.size) := Lib.hid (Nat.ne_of_lt (Array.getElem?_eq_some_iff.1 HNz.out).1)
    have HXa_b : Hid (bka ≠ w8.heap.size) := Lib.hid (Nat.ne_of_lt (Array.getElem?_eq_some_iff.1 HNa.out).1)
    have HXx_b : Hid (bkx ≠ w8.heap.size) := Lib.hid (Nat.ne_of_lt (Array.getElem?_eq_some_iff.1 HNx.out).1)
    replace HNc := Lib.hid ((hAlc.block _ (Array.getElem?_eq_some_iff.1 HNc.out).1).trans HNc.out)
    replace HNs := Lib.hid ((hAlc.block _ (Array.getElem?_eq_some_iff.1 HNs.out).1).trans HNs.out)
    replace HNz := Lib.hid ((hAlc.block _ (Array.getElem?_eq_some_iff.1 HNz.out).1).trans HNz.out)
    replace HNa := Lib.hid ((hAlc.block _ (Array.getElem?_eq_some_iff.1 HNa.out).1).trans HNa.out)
    replace HNx := Lib.hid ((hAlc.block _ (Array.getElem?_eq_some_iff.1 HNx.out).1).trans HNx.out)
    replace HP1 := Lib.hid (HP1.out.keep hAlc)
    replace HP2 := Lib.hid (HP2.out.keep hAlc)
    replace HP3 := Lib.hid (HP3.out.keep hAlc)
    obtain ⟨ab, hab⟩ : ∃ qq, w8.alloc (.cells #[.int .i64 C, .int .i64 T, .slice p3 LT.length q3] 38) = qq := ⟨_, rfl⟩
    obtain ⟨bkb, hbb⟩ : ∃ qq, w8.heap.size = qq := ⟨_, rfl⟩
    rw [hab] at HB HNb HNc HNs HNz HNa HNx HP1 HP2 HP3
    rw [hbb] at HNb HSb HXc_b HXs_b HXz_b HXa_b HXx_b
    clear hAlc
    have zc0 := cellH HNc.out 0
    have zc1 := cellH HNc.out 1
    have zs0 := cellH HNs.out 0
    have zs1 := cellH HNs.out 1
    simp only [List.getElem?_toArray, List.getElem?_cons_zero, List.getElem?_cons_succ] at zc0 zc1 zs0 zs1
    go_wp2_with fail
    try clear hab hbb
    refine (H4.out _ HB.out).mono ?_
    rintro e w9 ⟨p4, q4, rfl, hp4, hb⟩
    clear zc0 zc1 zs0 zs1
    replace HB := Lib.hid (HB.out.trans (hb.mono HB.out.size))
    replace HNc := Lib.hid ((hb.block _ (Array.getElem?_eq_some_iff.1 HNc.out).1).trans HNc.out)
    replace HNs := Lib.hid ((hb.block _ (Array.getElem?_eq_some_iff.1 HNs.out).1).trans HNs.out)
    replace HNz := Lib.hid ((hb.block _ (Array.getElem?_eq_some_iff.1 HNz.out).1).trans HNz.out)
    replace HNa := Lib.hid ((hb.block _ (Array.getElem?_eq_some_iff.1 HNa.out).1).trans HNa.out)
    replace HNx := Lib.hid ((hb.block _ (Array.getElem?_eq_some_iff.1 HNx.out).1).trans HNx.out)
    replace HNb := Lib.hid ((hb.block _ (Array.getElem?_eq_some_iff.1 HNb.out).1).trans HNb.out)
    replace HP1 := Lib.hid (HP1.out.keep hb)
    replace HP2 := Lib.hid (HP2.out.keep hb)
    replace HP3 := Lib.hid (HP3.out.keep hb)
    clear hb
    have HP4 := Lib.hid hp4
    clear hp4
    have hAlc : Below w9.heap.size w9 (w9.alloc (.cells #[.int .i64 C, .int .i64 T, .slice p4 LT.length q4, .int .i64 E] 43)) := (Below.refl _ w9).alloc (Nat.le_refl _) _
    have HSy : Hid (w.heap.size ≤ w9.heap.size) := Lib.hid HB.out.size
    have HNy : Hid ((w9.alloc (.cells #[.int .i64 C, .int .i64 T, .slice p4 LT.length q4, .int .i64 E] 43)).heap[w9.heap.size]? = some (.cells #[.int .i64 C, .int .i64 T, .slice p4 LT.length q4, .int .i64 E] 43 (0, 0))) := Lib.hid (heap_alloc_new _ _)
    replace HB := Lib.hid (HB.out.trans (hAlc.mono HB.out.size))
    have HXc_y : Hid (w.heap.size ≠ w9.heap.size) := Lib.hid (Nat.ne_of_lt (Array.getElem?_eq_some_iff.1 HNc.out).1)
    have HXs_y : Hid (w.heap.size + 1 ≠ w9.heap.size) := Lib.hid (Nat.ne_of_lt (Array.getElem?_eq_some_iff.1 HNs.out).1)
    have HXz_y : Hid (w.heap.size + 1 + 1 ≠ w9.heap.size) := Lib.hid (Nat.ne_of_lt (Array.getElem?_eq_some_iff.1 HNz.out).1)
    have HXa_y : Hid (bka ≠ w9.heap.size) := Lib.hid (Nat.ne_of_lt (Array.getElem?_eq_some_iff.1 HNa.out).1)
    have HXx_y : Hid (bkx ≠ w9.heap.size) := Lib.hid (Nat.ne_of_lt (Array.getElem?_eq_some_iff.1 HNx.out).1)
    have HXb_y : Hid (bkb ≠ w9.heap.size) := Lib.hid (Nat.ne_of_lt (Array.getElem?_eq_some_iff.1 HNb.out).1)
    replace HNc := Lib.hid ((hAlc.block _ (Array.getElem?_eq_some_iff.1 HNc.out).1).trans HNc.out)
    replace HNs := Lib.hid ((hAlc.block _ (Array.getElem?_eq_some_iff.1 HNs.out).1).trans HNs.out)
    replace HNz := Lib.hid ((hAlc.block _ (Array.getElem?_eq_some_iff.1 HNz.out).1).trans HNz.out)
    replace HNa := Lib.hid ((hAlc.block _ (Array.getElem?_eq_some_iff.1 HNa.out).1).trans HNa.out)
    replace HNx := Lib.hid ((hAlc.block _ (Array.getElem?_eq_some_iff.1 HNx.out).1).trans HNx.out)
    replace HNb := Lib.hid ((hAlc.block _ (Array.getElem?_eq_some_iff.1 HNb.out).1).trans HNb.out)
    replace HP1 := Lib.hid (HP1.out.keep hAlc)
    replace HP2 := Lib.hid (HP2.out.keep hAlc)
    replace HP3 := Lib.hid (HP3.out.keep hAlc)
    replace HP4 := Lib.hid (HP4.out.keep hAlc)
    obtain ⟨ay, hay⟩ : ∃ qq, w9.alloc (.cells #[.int .i64 C, .int .i64 T, .slice p4 LT.length q4, .int .i64 E] 43) = qq := ⟨_, rfl⟩
    obtain ⟨bky, hby⟩ : ∃ qq, w9.heap.size = qq := ⟨_, rfl⟩
    rw [hay] at HB HNy HNc HNs HNz HNa HNx HNb HP1 HP2 HP3 HP4
    rw [hby] at HNy HSy HXc_y HXs_y HXz_y HXa_y HXx_y HXb_y
    clear hAlc
    have zc0 := cellH HNc.out 0
    have zc1 := cellH HNc.out 1
    have zz0 := cellH HNz.out 0
    have zz1 := cellH HNz.out 1
    have zz2 := cellH HNz.out 2
    simp only [List.getElem?_toArray, List.getElem?_cons_zero, List.getElem?_cons_succ] at zc0 zc1 zz0 zz1 zz2
    go_wp2_with fail
    try clear hay hby
    refine (H6.out _ HB.out).mono ?_
    rintro e w10 ⟨rfl, hb⟩
    clear zc0 zc1 zz0 zz1 zz2
    replace HB := Lib.hid (HB.out.trans (hb.mono HB.out.size))
    replace HNc := Lib.hid ((hb.block _ (Array.getElem?_eq_some_iff.1 HNc.out).1).trans HNc.out)
    replace HNs := Lib.hid ((hb.block _ (Array.getElem?_eq_some_iff.1 HNs.out).1).trans HNs.out)
    replace HNz := Lib.hid ((hb.block _ (Array.getElem?_eq_some_iff.1 HNz.out).1).trans HNz.out)
    replace HNa := Lib.hid ((hb.block _ (Array.getElem?_eq_some_iff.1 HNa.out).1).trans HNa.out)
    replace HNx := Lib.hid ((hb.block _ (Array.getElem?_eq_some_iff.1 HNx.out).1).trans HNx.out)
    replace HNb := Lib.hid ((hb.block _ (Array.getElem?_eq_some_iff.1 HNb.out).1).trans HNb.out)
    replace HNy := Lib.hid ((hb.block _ (Array.getElem?_eq_some_iff.1 HNy.out).1).trans HNy.out)
    replace HP1 := Lib.hid (HP1.out.keep hb)
    replace HP2 := Lib.hid (HP2.out.keep hb)
    replace HP3 := Lib.hid (HP3.out.keep hb)
    replace HP4 := Lib.hid (HP4.out.keep hb)
    clear hb
    have zc0 := cellH HNc.out 0
    have zc1 := cellH HNc.out 1
    have zz0 := cellH HNz.out 0
    have zz1 := cellH HNz.out 1
    have zz2 := cellH HNz.out 2
    simp only [List.getElem?_toArray, List.getElem?_cons_zero, List.getElem?_cons_succ] at zc0 zc1 zz0 zz1 zz2
    go_wp2_with fail
    refine (H7.out _ HB.out).mono ?_
    rintro e w11 ⟨rfl, hb⟩
    clear zc0 zc1 zz0 zz1 zz2
    replace HB := Lib.hid (HB.out.trans (hb.mono HB.out.size))
    replace HNc := Lib.hid ((hb.block _ (Array.getElem?_eq_some_iff.1 HNc.out).1).trans HNc.out)
    replace HNs := Lib.hid ((hb.block _ (Array.getElem?_eq_some_iff.1 HNs.out).1).trans HNs.out)
    replace HNz := Lib.hid ((hb.block _ (Array.getElem?_eq_some_iff.1 HNz.out).1).trans HNz.out)
    replace HNa := Lib.hid ((hb.block _ (Array.getElem?_eq_some_iff.1 HNa.out).1).trans HNa.out)
    replace HNx := Lib.hid ((hb.block _ (Array.getElem?_eq_some_iff.1 HNx.out).1).trans HNx.out)
    replace HNb := Lib.hid ((hb.block _ (Array.getElem?_eq_some_iff.1 HNb.out).1).trans HNb.out)
    replace HNy := Lib.hid ((hb.block _ (Array.getElem?_eq_some_iff.1 HNy.out).1).trans HNy.out)
    replace HP1 := Lib.hid (HP1.out.keep hb)
    replace HP2 := Lib.hid (HP2.out.keep hb)
    replace HP3 := Lib.hid (HP3.out.keep hb)
    replace HP4 := Lib.hid (HP4.out.keep hb)
    clear hb
    have zc0 := cellH HNc.out 0
    have zc1 := cellH HNc.out 1
    simp only [List.getElem?_toArray, List.getElem?_cons_zero, List.getElem?_cons_succ] at zc0 zc1
    go_wp2_with fail
    refine (H5.out _).mono ?_
    rintro e w12 ⟨rfl, hb⟩
    clear zc0 zc1
    replace HB := Lib.hid (HB.out.trans (hb.mono HB.out.size))
    replace HNc := Lib.hid ((hb.block _ (Array.getElem?_eq_some_iff.1 HNc.out).1).trans HNc.out)
    replace HNs := Lib.hid ((hb.block _ (Array.getElem?_eq_some_iff.1 HNs.out).1).trans HNs.out)
    replace HNz := Lib.hid ((hb.block _ (Array.getElem?_eq_some_iff.1 HNz.out).1).trans HNz.out)
    replace HNa := Lib.hid ((hb.block _ (Array.getElem?_eq_some_iff.1 HNa.out).1).trans HNa.out)
    replace HNx := Lib.hid ((hb.block _ (Array.getElem?_eq_some_iff.1 HNx.out).1).trans HNx.out)
    replace HNb := Lib.hid ((hb.block _ (Array.getElem?_eq_some_iff.1 HNb.out).1).trans HNb.out)
    replace HNy := Lib.hid ((hb.block _ (Array.getElem?_eq_some_iff.1 HNy.out).1).trans HNy.out)
    replace HP1 := Lib.hid (HP1.out.keep hb)
    replace HP2 := Lib.hid (HP2.out.keep hb)
    replace HP3 := Lib.hid (HP3.out.keep hb)
    replace HP4 := Lib.hid (HP4.out.keep hb)
    clear hb
    have HSP := Lib.hid (sameZ_any (.slice p1 LF.length q1) (.slice p2 LF.length q2) C T LF w12 HP1.out HP2.out HLF.out)
    have za0 := cellH HNa.out 0
    have za1 := cellH HNa.out 1
    have za2 := cellH HNa.out 2
    have zx0 := cellH HNx.out 0
    have zx1 := cellH HNx.out 1
    have zx2 := cellH HNx.out 2
    have zx3 := cellH HNx.out 3
    simp only [List.getElem?_toArray, List.getElem?_cons_zero, List.getElem?_cons_succ] at za0 za1 za2 zx0 zx1 zx2 zx3
    go_wp2_with fail
    refine (HSP.out).mono ?_
    rintro e w13 ⟨rfl, hb⟩
    clear za0 za1 za2 zx0 zx1 zx2 zx3
    replace HB := Lib.hid (HB.out.trans (hb.mono HB.out.size))
    replace HNc := Lib.hid ((hb.block _ (Array.getElem?_eq_some_iff.1 HNc.out).1).trans HNc.out)
    replace HNs := Lib.hid ((hb.block _ (Array.getElem?_eq_some_iff.1 HNs.out).1).trans HNs.out)
    replace HNz := Lib.hid ((hb.block _ (Array.getElem?_eq_some_iff.1 HNz.out).1).trans HNz.out)
    replace HNa := Lib.hid ((hb.block _ (Array.getElem?_eq_some_iff.1 HNa.out).1).trans HNa.out)
    replace HNx := Lib.hid ((hb.block _ (Array.getElem?_eq_some_iff.1 HNx.out).1).trans HNx.out)
    replace HNb := Lib.hid ((hb.block _ (Array.getElem?_eq_some_iff.1 HNb.out).1).trans HNb.out)
    replace HNy := Lib.hid ((hb.block _ (Array.getElem?_eq_some_iff.1 HNy.out).1).trans HNy.out)
    replace HP1 := Lib.hid (HP1.out.keep hb)
    replace HP2 := Lib.hid (HP2.out.keep hb)
    replace HP3 := Lib.hid (HP3.out.keep hb)
    replace HP4 := Lib.hid (HP4.out.keep hb)
    clear hb
    clear HSP
    have HSI := Lib.hid (sameZ_any (.slice p3 LT.length q3) (.slice p4 LT.length q4) C T LT w13 HP3.out HP4.out HLT.out)
    have za0 := cellH HNa.out 0
    have za1 := cellH HNa.out 1
    have za2 := cellH HNa.out 2
    have zx0 := cellH HNx.out 0
    have zx1 := cellH HNx.out 1
    have zx2 := cellH HNx.out 2
    have zx3 := cellH HNx.out 3
    have zb0 := cellH HNb.out 0
    have zb1 := cellH HNb.out 1
    have zb2 := cellH HNb.out 2
    have zy0 := cellH HNy.out 0
    have zy1 := cellH HNy.out 1
    have zy2 := cellH HNy.out 2
    have zy3 := cellH HNy.out 3
    simp only [List.getElem?_toArray, List.getElem?_cons_zero, List.getElem?_cons_succ] at za0 za1 za2 zx0 zx1 zx2 zx3 zb0 zb1 zb2 zy0 zy1 zy2 zy3
    go_wp2_with fail
    refine (HSI.out).mono ?_
    rintro e w14 ⟨rfl, hb⟩
    clear za0 za1 za2 zx0 zx1 zx2 zx3 zb0 zb1 zb2 zy0 zy1 zy2 zy3
    replace HB := Lib.hid (HB.out.trans (hb.mono HB.out.size))
    replace HNc := Lib.hid ((hb.block _ (Array.getElem?_eq_some_iff.1 HNc.out).1).trans HNc.out)
    replace HNs := Lib.hid ((hb.block _ (Array.getElem?_eq_some_iff.1 HNs.out).1).trans HNs.out)
    replace HNz := Lib.hid ((hb.block _ (Array.getElem?_eq_some_iff.1 HNz.out).1).trans HNz.out)
    replace HNa := Lib.hid ((hb.block _ (Array.getElem?_eq_some_iff.1 HNa.out).1).trans HNa.out)
    replace HNx := Lib.hid ((hb.block _ (Array.getElem?_eq_some_iff.1 HNx.out).1).trans HNx.out)
    replace HNb := Lib.hid ((hb.block _ (Array.getElem?_eq_some_iff.1 HNb.out).1).trans HNb.out)
    replace HNy := Lib.hid ((hb.block _ (Array.getElem?_eq_some_iff.1 HNy.out).1).trans HNy.out)
    replace HP1 := Lib.hid (HP1.out.keep hb)
    replace HP2 := Lib.hid (HP2.out.keep hb)
    replace HP3 := Lib.hid (HP3.out.keep hb)
    replace HP4 := Lib.hid (HP4.out.keep hb)
    clear hb
    have zx0 := cellH HNx.out 0
    have zx1 := cellH HNx.out 1
    have zx2 := cellH HNx.out 2
    have zx3 := cellH HNx.out 3
    have zy0 := cellH HNy.out 0
    have zy1 := cellH HNy.out 1
    have zy2 := cellH HNy.out 2
    have zy3 := cellH HNy.out 3
    simp only [List.getElem?_toArray, List.getElem?_cons_zero, List.getElem?_cons_succ] at zx0 zx1 zx2 zx3 zy0 zy1 zy2 zy3
    go_wp2_with fail
    go_ret
    exact ⟨by simp, HB.out⟩
  have gz : ¬ (60 : Int) < nz := by omega
  clear q1
  have zc0 := cellH HNc.out 0
  have zc1 := cellH HNc.out 1
  have zs0 := cellH HNs.out 0
  have zs1 := cellH HNs.out 1
  have zz0 := cellH HNz.out 0
  have zz1 := cellH HNz.out 1
  have zz2 := cellH HNz.out 2
  simp only [List.getElem?_toArray, List.getElem?_cons_zero, List.getElem?_cons_succ] at zc0 zc1 zs0 zs1 zz0 zz1 zz2
  go_wp2_with fail
  refine (H1.out _ HB.out).mono ?_
  rintro e w15 ⟨p1, q1, rfl, hp1, hb⟩
  clear zc0 zc1 zs0 zs1 zz0 zz1 zz2
  replace HB := Lib.hid (HB.out.trans (hb.mono HB.out.size))
  replace HNc := Lib.hid ((hb.block _ (Array.getElem?_eq_some_iff.1 HNc.out).1).trans HNc.out)
  replace HNs := Lib.hid ((hb.block _ (Array.getElem?_eq_some_iff.1 HNs.out).1).trans HNs.out)
  replace HNz := Lib.hid ((hb.block _ (Array.getElem?_eq_some_iff.1 HNz.out).1).trans HNz.out)
  clear hb
  have HP1 := Lib.hid hp1
  clear hp1
  have hAlc : Below w15.heap.size w15 (w15.alloc (.cells #[.int .i64 C, .int .i64 T, .slice p1 LF.length q1] 38)) := (Below.refl _ w15).alloc (Nat.le_refl _) _
  have HSa : Hid (w.heap.size ≤ w15.heap.size) := Lib.hid HB.out.size
  have HNa : Hid ((w15.alloc (.cells #[.int .i64 C, .int .i64 T, .slice p1 LF.length q1] 38)).heap[w15.heap.size]? = some (.cells #[.int .i64 C, .int .i64 T, .slice p1 LF.length q1] 38 (0, 0))) := Lib.hid (heap_alloc_new _ _)
  replace HB := Lib.hid (HB.out.trans (hAlc.mono HB.out.size))
  have HXc_a : Hid (w.heap.size ≠ w15.heap.size) := Lib.hid (Nat.ne_of_lt (Array.getElem?_eq_some_iff.1 HNc.out).1)
  have HXs_a : Hid (w.heap.size + 1 ≠ w15.heap.size) := Lib.hid (Nat.ne_of_lt (Array.getElem?_eq_some_iff.1 HNs.out).1)
  have HXz_a : Hid (w.heap.size + 1 + 1 ≠ w15.heap.size) := Lib.hid (Nat.ne_of_lt (Array.getElem?_eq_some_iff.1 HNz.out).1)
  replace HNc := Lib.hid ((hAlc.block _ (Array.getElem?_eq_some_iff.1 HNc.out).1).trans HNc.out)
  replace HNs := Lib.hid ((hAlc.block _ (Array.getElem?_eq_some_iff.1 HNs.out).1).trans HNs.out)
  replace HNz := Lib.hid ((hAlc.block _ (Array.getElem?_eq_some_iff.1 HNz.out).1).trans HNz.out)
  replace HP1 := Lib.hid (HP1.out.keep hAlc)
  obtain ⟨aa, haa⟩ : ∃ qq, w15.alloc (.cells #[.int .i64 C, .int .i64 T, .slice p1 LF.length q1] 38) = qq := ⟨_, rfl⟩
  obtain ⟨bka, hba⟩ : ∃ qq, w15.heap.size = qq := ⟨_, rfl⟩
  rw [haa] at HB HNa HNc HNs HNz HP1
  rw [hba] at HNa HSa HXc_a HXs_a HXz_a
  clear hAlc
  have zc0 := cellH HNc.out 0
  have zc1 := cellH HNc.out 1
  have zs0 := cellH HNs.out 0
  have zs1 := cellH HNs.out 1
  simp only [List.getElem?_toArray, List.getElem?_cons_zero, List.getElem?_cons_succ] at zc0 zc1 zs0 zs1
  go_wp2_with fail
  try clear haa hba
  refine (H2.out _ HB.out).mono ?_
  rintro e w16 ⟨p2, q2, rfl, hp2, hb⟩
  clear zc0 zc1 zs0 zs1
  replace HB := Lib.hid (HB.out.trans (hb.mono HB.out.size))
  replace HNc := Lib.hid ((hb.block _ (Array.getElem?_eq_some_iff.1 HNc.out).1).trans HNc.out)
  replace HNs := Lib.hid ((hb.block _ (Array.getElem?_eq_some_iff.1 HNs.out).1).trans HNs.out)
  replace HNz := Lib.hid ((hb.block _ (Array.getElem?_eq_some_iff.1 HNz.out).1).trans HNz.out)
  replace HNa := Lib.hid ((hb.block _ (Array.getElem?_eq_some_iff.1 HNa.out).1).trans HNa.out)
  replace HP1 := Lib.hid (HP1.out.keep hb)
  clear hb
  have HP2 := Lib.hid hp2
  clear hp2
  have hAlc : Below w16.heap.size w16 (w16.alloc (.cells #[.int .i64 C, .int .i64 T, .slice p2 LF.length q2, .int .i64 E] 43)) := (Below.refl _ w16).alloc (Nat.le_refl _) _
  have HSx : Hid (w.heap.size ≤ w16.heap.size) := Lib.hid HB.out.size
  have HNx : Hid ((w16.alloc (.cells #[.int .i64 C, .int .i64 T, .slice p2 LF.length q2, .int .i64 E] 43)).heap[w16.heap.size]? = some (.cells #[.int .i64 C, .int .i64 T, .slice p2 LF.length q2, .int .i64 E] 43 (0, 0))) := Lib.hid (heap_alloc_new _ _)
  replace HB := Lib.hid (HB.out.trans (hAlc.mono HB.out.size))
  have HXc_x : Hid (w.heap.size ≠ w16.heap.size) := Lib.hid (Nat.ne_of_lt (Array.getElem?_eq_some_iff.1 HNc.out).1)
  have HXs_x : Hid (w.heap.size + 1 ≠ w16.heap.size) := Lib.hid (Nat.ne_of_lt (Array.getElem?_eq_some_iff.1 HNs.out).1)
  have HXz_x : Hid (w.heap.size + 1 + 1 ≠ w16.heap.size) := Lib.hid (Nat.ne_of_lt (Array.getElem?_eq_some_iff.1 HNz.out).1)
  have HXa_x : Hid (bka ≠ w16.heap.size) := Lib.hid (Nat.ne_of_lt (Array.getElem?_eq_some_iff.1 HNa.out).1)
  replace HNc := Lib.hid ((hAlc.block _ (Array.getElem?_eq_some_iff.1 HNc.out).1).trans HNc.out)
  replace HNs := Lib.hid ((hAlc.block _ (Array.getElem?_eq_some_iff.1 HNs.out).1).trans HNs.out)
  replace HNz := Lib.hid ((hAlc.block _ (Array.getElem?_eq_some_iff.1 HNz.out).1).trans HNz.out)
  replace HNa := Lib.hid ((hAlc.block _ (Array.getElem?_eq_some_iff.1 HNa.out).1).trans HNa.out)
  replace HP1 := Lib.hid (HP1.out.keep hAlc)
  replace HP2 := Lib.hid (HP2.out.keep hAlc)
  obtain ⟨ax, hax⟩ : ∃ qq, w16.alloc (.cells #[.int .i64 C, .int .i64 T, .slice p2 LF.length q2, .int .i64 E] 43) = qq := ⟨_, rfl⟩
  obtain ⟨bkx, hbx⟩ : ∃ qq, w16.heap.size = qq := ⟨_, rfl⟩
  rw [hax] at HB HNx HNc HNs HNz HNa HP1 HP2
  rw [hbx] at HNx HSx HXc_x HXs_x HXz_x HXa_x
  clear hAlc
  have zc0 := cellH HNc.out 0
  have zc1 := cellH HNc.out 1
  have zs0 := cellH HNs.out 0
  have zs1 := cellH HNs.out 1
  simp only [List.getElem?_toArray, List.getElem?_cons_zero, List.getElem?_cons_succ] at zc0 zc1 zs0 zs1
  go_wp2_with fail
  try clear hax hbx
  refine (H3.out _ HB.out).mono ?_
  rintro e w17 ⟨p3, q3, rfl, hp3, hb⟩
  clear zc0 zc1 zs0 zs1
  replace HB := Lib.hid (HB.out.trans (hb.mono HB.out.size))
  replace HNc := Lib.hid ((hb.block _ (Array.getElem?_eq_some_iff.1 HNc.out).1).trans HNc.out)
  replace HNs := Lib.hid ((hb.block _ (Array.getElem?_eq_some_iff.1 HNs.out).1).trans HNs.out)
  replace HNz := Lib.hid ((hb.block _ (Array.getElem?_eq_some_iff.1 HNz.out).1).trans HNz.out)
  replace HNa := Lib.hid ((hb.block _ (Array.getElem?_eq_some_iff.1 HNa.out).1).trans HNa.out)
  replace HNx := Lib.hid ((hb.block _ (Array.getElem?_eq_some_iff.1 HNx.out).1).trans HNx.out)
  replace HP1 := Lib.hid (HP1.out.keep hb)
  replace HP2 := Lib.hid (HP2.out.keep hb)
  clear hb
  have HP3 := Lib.hid hp3
  clear hp3
  have hAlc : Below w17.heap.size w17 (w17.alloc (.cells #[.int .i64 C, .int .i64 T, .slice p3 LT.length q3] 38)) := (Below.refl _ w17).alloc (Nat.le_refl _) _
  have HSb : Hid (w.heap.size ≤ w17.heap.size) := Lib.hid HB.out.size
  have HNb : Hid ((w17.alloc (.cells #[.int .i64 C, .int .i64 T, .slice p3 LT.length q3] 38)).heap[w17.heap.size]? = some (.cells #[.int .i64 C, .int .i64 T, .slice p3 LT.length q3] 38 (0, 0))) := Lib.hid (heap_alloc_new _ _)
  replace HB := Lib.hid (HB.out.trans (hAlc.mono HB.out.size))
  have HXc_b : Hid (w.heap.size ≠ w17.heap.size) := Lib.hid (Nat.ne_of_lt (Array.getElem?_eq_some_iff.1 HNc.out).1)
  have HXs_b : Hid (w.heap.size + 1 ≠ w17.heap.size) := Lib.hid (Nat.ne_of_lt (Array.getElem?_eq_some_iff.1 HNs.out).1)
  have HXz_b : Hid (w.heap.size + 1 + 1 ≠ w17.heap.size) := Lib.hid (Nat.ne_of_lt (Array.getElem?_eq_some_iff.1 HNz.out).1)
  have HXa_b : Hid (bka ≠ w17.heap.size) := Lib.hid (Nat.ne_of_lt (Array.getElem?_eq_some_iff.1 HNa.out).1)
  have HXx_b : Hid (bkx ≠ w17.heap.size) := Lib.hid (Nat.ne_of_lt (Array.getElem?_eq_some_iff.1 HNx.out).1)
  replace HNc := Lib.hid ((hAlc.block _ (Array.getElem?_eq_some_iff.1 HNc.out).1).trans HNc.out)
  replace HNs := Lib.hid ((hAlc.block _ (Array.getElem?_eq_some_iff.1 HNs.out).1).trans HNs.out)
  replace HNz := Lib.hid ((hAlc.block _ (Array.getElem?_eq_some_iff.1 HNz.out).1).trans HNz.out)
  replace HNa := Lib.hid ((hAlc.block _ (Array.getElem?_eq_some_iff.1 HNa.out).1).trans HNa.out)
  replace HNx := Lib.hid ((hAlc.block _ (Array.getElem?_eq_some_iff.1 HNx.out).1).trans HNx.out)
  replace HP1 := Lib.hid (HP1.out.keep hAlc)
  replace HP2 := Lib.hid (HP2.out.keep hAlc)
  replace HP3 := Lib.hid (HP3.out.keep hAlc)
  obtain ⟨ab, hab⟩ : ∃ qq, w17.alloc (.cells #[.int .i64 C, .int .i64 T, .slice p3 LT.length q3] 38) = qq := ⟨_, rfl⟩
  obtain ⟨bkb, hbb⟩ : ∃ qq, w17.heap.size = qq := ⟨_, rfl⟩
  rw [hab] at HB HNb HNc HNs HNz HNa HNx HP1 HP2 HP3
  rw [hbb] at HNb HSb HXc_b HXs_b HXz_b HXa_b HXx_b
  clear hAlc
  have zc0 := cellH HNc.out 0
  have zc1 := cellH HNc.out 1
  have zs0 := cellH HNs.out 0
  have zs1 := cellH HNs.out 1
  simp only [List.getElem?_toArray, List.getElem?_cons_zero, List.getElem?_cons_succ] at zc0 zc1 zs0 zs1
  go_wp2_with fail
  try clear hab hbb
  refine (H4.out _ HB.out).mono ?_
  rintro e w18 ⟨p4, q4, rfl, hp4, hb⟩
  clear zc0 zc1 zs0 zs1
  replace HB := Lib.hid (HB.out.trans (hb.mono HB.out.size))
  replace HNc := Lib.hid ((hb.block _ (Array.getElem?_eq_some_iff.1 HNc.out).1).trans HNc.out)
  replace HNs := Lib.hid ((hb.block _ (Array.getElem?_eq_some_iff.1 HNs.out).1).trans HNs.out)
  replace HNz := Lib.hid ((hb.block _ (Array.getElem?_eq_some_iff.1 HNz.out).1).trans HNz.out)
  replace HNa := Lib.hid ((hb.block _ (Array.getElem?_eq_some_iff.1 HNa.out).1).trans HNa.out)
  replace HNx := Lib.hid ((hb.block _ (Array.getElem?_eq_some_iff.1 HNx.out).1).trans HNx.out)
  replace HNb := Lib.hid ((hb.block _ (Array.getElem?_eq_some_iff.1 HNb.out).1).trans HNb.out)
  replace HP1 := Lib.hid (HP1.out.keep hb)
  replace HP2 := Lib.hid (HP2.out.keep hb)
  replace HP3 := Lib.hid (HP3.out.keep hb)
  clear hb
  have HP4 := Lib.hid hp4
  clear hp4
  have hAlc : Below w18.heap.size w18 (w18.alloc (.cells #[.int .i64 C, .int .i64 T, .slice p4 LT.length q4, .int .i64 E] 43)) := (Below.refl _ w18).alloc (Nat.le_refl _) _
  have HSy : Hid (w.heap.size ≤ w18.heap.size) := Lib.hid HB.out.size
  have HNy : Hid ((w18.alloc (.cells #[.int .i64 C, .int .i64 T, .slice p4 LT.length q4, .int .i64 E] 43)).heap[w18.heap.size]? = some (.cells #[.int .i64 C, .int .i64 T, .slice p4 LT.length q4, .int .i64 E] 43 (0, 0))) := Lib.hid (heap_alloc_new _ _)
  replace HB := Lib.hid (HB.out.trans (hAlc.mono HB.out.size))
  have HXc_y : Hid (w.heap.size ≠ w18.heap.size) := Lib.hid (Nat.ne_of_lt (Array.getElem?_eq_some_iff.1 HNc.out).1)
  have HXs_y : Hid (w.heap.size + 1 ≠ w18.heap.size) := Lib.hid (Nat.ne_of_lt (Array.getElem?_eq_some_iff.1 HNs.out).1)
  have HXz_y : Hid (w.heap.size + 1 + 1 ≠ w18.heap.size) := Lib.hid (Nat.ne_of_lt (Array.getElem?_eq_some_iff.1 HNz.out).1)
  have HXa_y : Hid (bka ≠ w18.heap.size) := Lib.hid (Nat.ne_of_lt (Array.getElem?_eq_some_iff.1 HNa.out).1)
  have HXx_y : Hid (bkx ≠ w18.heap.size) := Lib.hid (Nat.ne_of_lt (Array.getElem?_eq_some_iff.1 HNx.out).1)
  have HXb_y : Hid (bkb ≠ w18.heap.size) := Lib.hid (Nat.ne_of_lt (Array.getElem?_eq_some_iff.1 HNb.out).1)
  replace HNc := Lib.hid ((hAlc.block _ (Array.getElem?_eq_some_iff.1 HNc.out).1).trans HNc.out)
  replace HNs := Lib.hid ((hAlc.block _ (Array.getElem?_eq_some_iff.1 HNs.out).1).trans HNs.out)
  replace HNz := Lib.hid ((hAlc.block _ (Array.getElem?_eq_some_iff.1 HNz.out).1).trans HNz.out)
  replace HNa := Lib.hid ((hAlc.block _ (Array.getElem?_eq_some_iff.1 HNa.out).1).trans HNa.out)
  replace HNx := Lib.hid ((hAlc.block _ (Array.getElem?_eq_some_iff.1 HNx.out).1).trans HNx.out)
  replace HNb := Lib.hid ((hAlc.block _ (Array.getElem?_eq_some_iff.1 HNb.out).1).trans HNb.out)
  replace HP1 := Lib.hid (HP1.out.keep hAlc)
  replace HP2 := Lib.hid (HP2.out.keep hAlc)
  replace HP3 := Lib.hid (HP3.out.keep hAlc)
  replace HP4 := Lib.hid (HP4.out.keep hAlc)
  obtain ⟨ay, hay⟩ : ∃ qq, w18.alloc (.cells #[.int .i64 C, .int .i64 T, .slice p4 LT.length q4, .int .i64 E] 43) = qq := ⟨_, rfl⟩
  obtain ⟨bky, hby⟩ : ∃ qq, w18.heap.size = qq := ⟨_, rfl⟩
  rw [hay] at HB HNy HNc HNs HNz HNa HNx HNb HP1 HP2 HP3 HP4
  rw [hby] at HNy HSy HXc_y HXs_y HXz_y HXa_y HXx_y HXb_y
  clear hAlc
  have zc0 := cellH HNc.out 0
  have zc1 := cellH HNc.out 1
  have zz0 := cellH HNz.out 0
  have zz1 := cellH HNz.out 1
  have zz2 := cellH HNz.out 2
  simp only [List.getElem?_toArray, List.getElem?_cons_zero, List.getElem?_cons_succ] at zc0 zc1 zz0 zz1 zz2
  go_wp2_with fail
  try clear hay hby
  refine (H6.out _ HB.out).mono ?_
  rintro e w19 ⟨rfl, hb⟩
  clear zc0 zc1 zz0 zz1 zz2
  replace HB := Lib.hid (HB.out.trans (hb.mono HB.out.size))
  replace HNc := Lib.hid ((hb.block _ (Array.getElem?_eq_some_iff.1 HNc.out).1).trans HNc.out)
  replace HNs := Lib.hid ((hb.block _ (Array.getElem?_eq_some_iff.1 HNs.out).1).trans HNs.out)
  replace HNz := Lib.hid ((hb.block _ (Array.getElem?_eq_some_iff.1 HNz.out).1).trans HNz.out)
  replace HNa := Lib.hid ((hb.block _ (Array.getElem?_eq_some_iff.1 HNa.out).1).trans HNa.out)
  replace HNx := Lib.hid ((hb.block _ (Array.getElem?_eq_some_iff.1 HNx.out).1).trans HNx.out)
  replace HNb := Lib.hid ((hb.block _ (Array.getElem?_eq_some_iff.1 HNb.out).1).trans HNb.out)
  replace HNy := Lib.hid ((hb.block _ (Array.getElem?_eq_some_iff.1 HNy.out).1).trans HNy.out)
  replace HP1 := Lib.hid (HP1.out.keep hb)
  replace HP2 := Lib.hid (HP2.out.keep hb)
  replace HP3 := Lib.hid (HP3.out.keep hb)
  replace HP4 := Lib.hid (HP4.out.keep hb)
  clear hb
  have zc0 := cellH HNc.out 0
  have zc1 := cellH HNc.out 1
  have zz0 := cellH HNz.out 0
  have zz1 := cellH HNz.out 1
  have zz2 := cellH HNz.out 2
  simp only [List.getElem?_toArray, List.getElem?_cons_zero, List.getElem?_cons_succ] at zc0 zc1 zz0 zz1 zz2
  go_wp2_with fail
  refine (H7.out _ HB.out).mono ?_
  rintro e w20 ⟨rfl, hb⟩
  clear zc0 zc1 zz0 zz1 zz2
  replace HB := Lib.hid (HB.out.trans (hb.mono HB.out.size))
  replace HNc := Lib.hid ((hb.block _ (Array.getElem?_eq_some_iff.1 HNc.out).1).trans HNc.out)
  replace HNs := Lib.hid ((hb.block _ (Array.getElem?_eq_some_iff.1 HNs.out).1).trans HNs.out)
  replace HNz := Lib.hid ((hb.block _ (Array.getElem?_eq_some_iff.1 HNz.out).1).trans HNz.out)
  replace HNa := Lib.hid ((hb.block _ (Array.getElem?_eq_some_iff.1 HNa.out).1).trans HNa.out)
  replace HNx := Lib.hid ((hb.block _ (Array.getElem?_eq_some_iff.1 HNx.out).1).trans HNx.out)
  replace HNb := Lib.hid ((hb.block _ (Array.getElem?_eq_some_iff.1 HNb.out).1).trans HNb.out)
  replace HNy := Lib.hid ((hb.block _ (Array.getElem?_eq_some_iff.1 HNy.out).1).trans HNy.out)
  replace HP1 := Lib.hid (HP1.out.keep hb)
  replace HP2 := Lib.hid (HP2.out.keep hb)
  replace HP3 := Lib.hid (HP3.out.keep hb)
  replace HP4 := Lib.hid (HP4.out.keep hb)
  clear hb
  have zc0 := cellH HNc.out 0
  have zc1 := cellH HNc.out 1
  simp only [List.getElem?_toArray, List.getElem?_cons_zero, List.getElem?_cons_succ] at zc0 zc1
  go_wp2_with fail
  refine (H5.out _).mono ?_
  rintro e w21 ⟨rfl, hb⟩
  clear zc0 zc1
  replace HB := Lib.hid (HB.out.trans (hb.mono HB.out.size))
  replace HNc := Lib.hid ((hb.block _ (Array.getElem?_eq_some_iff.1 HNc.out).1).trans HNc.out)
  replace HNs := Lib.hid ((hb.block _ (Array.getElem?_eq_some_iff.1 HNs.out).1).trans HNs.out)
  replace HNz := Lib.hid ((hb.block _ (Array.getElem?_eq_some_iff.1 HNz.out).1).trans HNz.out)
  replace HNa := Lib.hid ((hb.block _ (Array.getElem?_eq_some_iff.1 HNa.out).1).trans HNa.out)
  replace HNx := Lib.hid ((hb.block _ (Array.getElem?_eq_some_iff.1 HNx.out).1).trans HNx.out)
  replace HNb := Lib.hid ((hb.block _ (Array.getElem?_eq_some_iff.1 HNb.out).1).trans HNb.out)
  replace HNy := Lib.hid ((hb.block _ (Array.getElem?_eq_some_iff.1 HNy.out).1).trans HNy.out)
  replace HP1 := Lib.hid (HP1.out.keep hb)
  replace HP2 := Lib.hid (HP2.out.keep hb)
  replace HP3 := Lib.hid (HP3.out.keep hb)
  replace HP4 := Lib.hid (HP4.out.keep hb)
  clear hb
  have HSP := Lib.hid (sameZ_any (.slice p1 LF.length q1) (.slice p2 LF.length q2) C T LF w21 HP1.out HP2.out HLF.out)
  have za0 := cellH HNa.out 0
  have za1 := cellH HNa.out 1
  have za2 := cellH HNa.out 2
  have zx0 := cellH HNx.out 0
  have zx1 := cellH HNx.out 1
  have zx2 := cellH HNx.out 2
  have zx3 := cellH HNx.out 3
  simp only [List.getElem?_toArray, List.getElem?_cons_zero, List.getElem?_cons_succ] at za0 za1 za2 zx0 zx1 zx2 zx3
  go_wp2_with fail
  refine (HSP.out).mono ?_
  rintro e w22 ⟨rfl, hb⟩
  clear za0 za1 za2 zx0 zx1 zx2 zx3
  replace HB := Lib.hid (HB.out.trans (hb.mono HB.out.size))
  replace HNc := Lib.hid ((hb.block _ (Array.getElem?_eq_some_iff.1 HNc.out).1).trans HNc.out)
  replace HNs := Lib.hid ((hb.block _ (Array.getElem?_eq_some_iff.1 HNs.out).1).trans HNs.out)
  replace HNz := Lib.hid ((hb.block _ (Array.getElem?_eq_some_iff.1 HNz.out).1).trans HNz.out)
  replace HNa := Lib.hid ((hb.block _ (Array.getElem?_eq_some_iff.1 HNa.out).1).trans HNa.out)
  replace HNx := Lib.hid ((hb.block _ (Array.getElem?_eq_some_iff.1 HNx.out).1).trans HNx.out)
  replace HNb := Lib.hid ((hb.block _ (Array.getElem?_eq_some_iff.1 HNb.out).1).trans HNb.out)
  replace HNy := Lib.hid ((hb.block _ (Array.getElem?_eq_some_iff.1 HNy.out).1).trans HNy.out)
  replace HP1 := Lib.hid (HP1.out.keep hb)
  replace HP2 := Lib.hid (HP2.out.keep hb)
  replace HP3 := Lib.hid (HP3.out.keep hb)
  replace HP4 := Lib.hid (HP4.out.keep hb)
  clear hb
  clear HSP
  have HSI := Lib.hid (sameZ_any (.slice p3 LT.length q3) (.slice p4 LT.length q4) C T LT w22 HP3.out HP4.out HLT.out)
  have za0 := cellH HNa.out 0
  have za1 := cellH HNa.out 1
  have za2 := cellH HNa.out 2
  have zx0 := cellH HNx.out 0
  have zx1 := cellH HNx.out 1
  have zx2 := cellH HNx.out 2
  have zx3 := cellH HNx.out 3
  have zb0 := cellH HNb.out 0
  have zb1 := cellH HNb.out 1
  have zb2 := cellH HNb.out 2
  have zy0 := cellH HNy.out 0
  have zy1 := cellH HNy.out 1
  have zy2 := cellH HNy.out 2
  have zy3 := cellH HNy.out 3
  simp only [List.getElem?_toArray, List.getElem?_cons_zero, List.getElem?_cons_succ] at za0 za1 za2 zx0 zx1 zx2 zx3 zb0 zb1 zb2 zy0 zy1 zy2 zy3
  go_wp2_with fail
  refine (HSI.out).mono ?_
  rintro e w23 ⟨rfl, hb⟩
  clear za0 za1 za2 zx0 zx1 zx2 zx3 zb0 zb1 zb2 zy0 zy1 zy2 zy3
  replace HB := Lib.hid (HB.out.trans (hb.mono HB.out.size))
  replace HNc := Lib.hid ((hb.block _ (Array.getElem?_eq_some_iff.1 HNc.out).1).trans HNc.out)
  replace HNs := Lib.hid ((hb.block _ (Array.getElem?_eq_some_iff.1 HNs.out).1).trans HNs.out)
  replace HNz := Lib.hid ((hb.block _ (Array.getElem?_eq_some_iff.1 HNz.out).1).trans HNz.out)
  replace HNa := Lib.hid ((hb.block _ (Array.getElem?_eq_some_iff.1 HNa.out).1).trans HNa.out)
  replace HNx := Lib.hid ((hb.block _ (Array.getElem?_eq_some_iff.1 HNx.out).1).trans HNx.out)
  replace HNb := Lib.hid ((hb.block _ (Array.getElem?_eq_some_iff.1 HNb.out).1).trans HNb.out)
  replace HNy := Lib.hid ((hb.block _ (Array.getElem?_eq_some_iff.1 HNy.out).1).trans HNy.out)
  replace HP1 := Lib.hid (HP1.out.keep hb)
  replace HP2 := Lib.hid (HP2.out.keep hb)
  replace HP3 := Lib.hid (HP3.out.keep hb)
  replace HP4 := Lib.hid (HP4.out.keep hb)
  clear hb
  have zx0 := cellH HNx.out 0
  have zx1 := cellH HNx.out 1
  have zx2 := cellH HNx.out 2
  have zx3 := cellH HNx.out 3
  have zy0 := cellH HNy.out 0
  have zy1 := cellH HNy.out 1
  have zy2 := cellH HNy.out 2
  have zy3 := cellH HNy.out 3
  simp only [List.getElem?_toArray, List.getElem?_cons_zero, List.getElem?_cons_succ] at zx0 zx1 zx2 zx3 zy0 zy1 zy2 zy3
  go_wp2_with fail
  go_ret
  exact ⟨by simp, HB.out⟩
end Go.Proofs.YtebdboacmeafaaaGreat
