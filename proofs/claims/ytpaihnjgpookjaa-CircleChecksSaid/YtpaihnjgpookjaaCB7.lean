/- Package circle: far, low, high, clash. -/
import Derived.Test.YtpaihnjgpookjaaCB6
set_option linter.unusedVariables false
set_option linter.unusedSimpArgs false
namespace Go.Proofs.Ytpaihnjgpookjaa
open Go Go.RowKit

/-- A circle with its things as a value. -/
abbrev dlV (z : Ci) (v : Value) : Value := .agg #[.int .i64 z.id, .int .i64 z.x, .int .i64 z.y, .int .i64 z.f, .int .i64 z.t, .int .i64 z.lo, .int .i64 z.hi, .int .i64 z.dr, v]
/-- How far a zero drifts. -/
def frI (dr s t : Int) : Int := (dr * max (s - t) (t - s) + 59) / 60
theorem fr_mul {dr s t : Int} (hd : 0 ≤ dr ∧ dr ≤ 60) (hs : 0 ≤ s ∧ s ≤ 1048576) (ht : 0 ≤ t ∧ t ≤ 1048576) : (0 ≤ dr * max (s - t) (t - s) ∧ dr * max (s - t) (t - s) ≤ 60 * 1048576) ∧ 0 ≤ frI dr s t ∧ frI dr s t ≤ 1048576 := by
  have h1 : 0 ≤ dr * max (s - t) (t - s) := Int.mul_nonneg hd.1 (by omega)
  have h2 : dr * max (s - t) (t - s) ≤ 60 * 1048576 := Int.mul_le_mul hd.2 (by omega) (by omega) (by omega)
  refine ⟨⟨h1, h2⟩, ?_, ?_⟩
  · unfold frI; exact Int.ediv_nonneg (by omega) (by decide)
  · unfold frI; omega
/-- The worlds and frames in the head of a region. -/
def FrInv (W1 : World) (p3 : Nat) (dr s t m p F : Int) (u0 u4 u5 u6 u7 u8 u9 u10 u11 u12 u13 u14 u15 u16 u17 u18 u19 u20 u21 : Value) (listed : Array Bool) (a : Act) (w' : World) : Prop :=
  ∃ (l0 l1 l2 l3 l4 l5 l6 l7 l8 l9 l10 l11 l12 l13 l14 : Bool) (A : Nat), listed = #[l0, l1, l2, l3, l4, l5, l6, l7, l8, l9, l10, l11, l12, l13, l14, false] ∧ a = { tmps := #[u0, .int .i64 s, .int .i64 t, .pointer (some ⟨p3, 0, none⟩), u4, u5, u6, pkIf l0 (.pointer (some ⟨p3, 0, none⟩)) (u7), pkIf l1 (.pointer (some ⟨p3, 7, none⟩)) (u8), pkIf l2 (.int .i64 dr) (u9), pkIf l3 (.int .i64 s) (u10), pkIf l4 (.int .i64 t) (u11), pkIf l5 (.int .i64 (s - t)) (u12), pkIf l6 (.int .i64 t) (u13), pkIf l7 (.int .i64 s) (u14), pkIf l8 (.int .i64 (t - s)) (u15), pkIf l9 (.slice (some ⟨A, 0, none⟩) 1 1) (u16), pkIf l10 (.int .i64 m) (u17), pkIf l11 (.int .i64 p) (u18), pkIf l12 (.int .i64 (p + 60)) (u19), pkIf l13 (.int .i64 (p + 60 - 1)) (u20), pkIf l14 (.int .i64 F) (u21)], defers := [] } ∧ Below W1.heap.size W1 w' ∧ (l9 = true → W1.heap.size ≤ A ∧ w'.heap[A]? = some (.cells #[.int .i64 (t - s)] 3 (0, 0)))
set_option maxRecDepth 100000 in
set_option maxHeartbeats 4000000 in
theorem far_any (z : Ci) (v : Value) (s t : Int) (w : World) (hd : 0 ≤ z.dr ∧ z.dr ≤ 60) (hs : 0 ≤ s ∧ s ≤ 1048576) (ht : 0 ≤ t ∧ t ≤ 1048576) :
    Calls Try.prog 87 #[dlV z v, .int .i64 s, .int .i64 t] w fun e w' => e = .returned (.int .i64 (frI z.dr s t)) ∧ Below w.heap.size w w' := by
  obtain ⟨zi, zx, zy, zf, zt, zl, zh, dr⟩ := z
  simp only at hd ⊢
  obtain ⟨⟨p1, p2⟩, p3, p4⟩ := fr_mul hd hs ht
  have HFR : Hid (frI dr s t = (dr * max (s - t) (t - s) + 59) / 60) := Lib.hid rfl
  obtain ⟨m, hm⟩ : ∃ m, max (s - t) (t - s) = m := ⟨_, rfl⟩
  rw [hm] at p1 p2 HFR
  obtain ⟨F, hF⟩ : ∃ m, frI dr s t = m := ⟨_, rfl⟩
  rw [hF] at HFR p3 p4 ⊢
  obtain ⟨p, hp⟩ : ∃ m, dr * m = m := ⟨0, by simp⟩
  clear hp p
  obtain ⟨p, hp⟩ : ∃ q, dr * m = q := ⟨_, rfl⟩
  rw [hp] at p1 p2 HFR
  have e1 : IntKind.i64.wrap (s - t) = s - t := IntWalk.i64_in _ (by omega)
  have e2 : IntKind.i64.wrap (t - s) = t - s := IntWalk.i64_in _ (by omega)
  have e3 : IntKind.i64.wrap p = p := IntWalk.i64_in _ (by omega)
  have e4 : IntKind.i64.wrap (p + 60) = p + 60 := IntWalk.i64_in _ (by omega)
  have e5 : IntKind.i64.wrap (p + 60 - 1) = p + 60 - 1 := IntWalk.i64_in _ (by omega)
  have e6 : (p + 60 - 1).tdiv 60 = F := by rw [Int.tdiv_eq_ediv_of_nonneg (by omega), HFR.out]; congr 1; omega
  have e7 : IntKind.i64.wrap F = F := IntWalk.i64_in _ (by omega)
  have hmx : maxL (s - t) [t - s] = m := hm
  have HGR : Hid (∀ (w' : World) (A : Nat), w'.heap[A]? = some (.cells #[.int .i64 (t - s)] 3 (0, 0)) → Calls Try.prog 80 #[.int .i64 (s - t), .slice (some ⟨A, 0, none⟩) 1 1] w' fun e w'' => e = .returned (.int .i64 m) ∧ w'' = w') := Lib.hid (fun w' A hA => by
    have h := greatest_any (s - t) _ [t - s] w' (row_one (t - s) hA) (by simp)
    rwa [hmx] at h)
  clear hmx hm hF p1 p2 p3 p4 hd hs ht
  have HA := Lib.hid (fun W' => cells1 w #[.int .i64 zi, .int .i64 zx, .int .i64 zy, .int .i64 zf, .int .i64 zt, .int .i64 zl, .int .i64 zh, .int .i64 dr, v] 112 (W := W'))
  have HB0 := Lib.hid (Below.refl (w.alloc (.cells #[.int .i64 zi, .int .i64 zx, .int .i64 zy, .int .i64 zf, .int .i64 zt, .int .i64 zl, .int .i64 zh, .int .i64 dr, v] 112)).heap.size (w.alloc (.cells #[.int .i64 zi, .int .i64 zx, .int .i64 zy, .int .i64 zf, .int .i64 zt, .int .i64 zl, .int .i64 zh, .int .i64 dr, v] 112)))
  obtain ⟨Z, hZ⟩ : ∃ Z, w.alloc (.cells #[.int .i64 zi, .int .i64 zx, .int .i64 zy, .int .i64 zf, .int .i64 zt, .int .i64 zl, .int .i64 zh, .int .i64 dr, v] 112) = Z := ⟨_, rfl⟩
  rw [hZ] at HA HB0
  have HZ := Lib.hid hZ
  have HRD : Hid (∀ W', Below Z.heap.size Z W' → W'.cell? ⟨w.heap.size, 7, none⟩ = some (.int .i64 dr) ∧ Below w.heap.size w W') := Lib.hid (fun W' h => by
    obtain ⟨x1, _, x3⟩ := HA.out W' h
    exact ⟨cellH x1 7, x3⟩)
  clear hZ
  go_enter Try.func87, Try.ntmps87
  go_wp2_with fail
  rw [HZ.out]
  refine wp_region_invtail 15 (by kernel_rfl) (by kernel_rfl) (by kernel_rfl) (by kernel_rfl) (of_decide_eq_true (by kernel_rfl)) (by kernel_rfl) (FrInv Z w.heap.size dr s t m p F _ _ _ _ _ _ _ _ _ _ _ _ _ _ _ _ _ _ _) ⟨false, false, false, false, false, false, false, false, false, false, false, false, false, false, false, 0, rfl, rfl, (Below.refl _ _).drew, by simp⟩ ?hend ?hstep
  case hend =>
    rintro listed a w' ⟨l0, l1, l2, l3, l4, l5, l6, l7, l8, l9, l10, l11, l12, l13, l14, A, rfl, rfl, hb, hA⟩ hall
    have hal : l0 = true ∧ l1 = true ∧ l2 = true ∧ l3 = true ∧ l4 = true ∧ l5 = true ∧ l6 = true ∧ l7 = true ∧ l8 = true ∧ l9 = true ∧ l10 = true ∧ l11 = true ∧ l12 = true ∧ l13 = true ∧ l14 = true := ⟨by simpa using hall 0 (by decide), by simpa using hall 1 (by decide), by simpa using hall 2 (by decide), by simpa using hall 3 (by decide), by simpa using hall 4 (by decide), by simpa using hall 5 (by decide), by simpa using hall 6 (by decide), by simpa using hall 7 (by decide), by simpa using hall 8 (by decide), by simpa using hall 9 (by decide), by simpa using hall 10 (by decide), by simpa using hall 11 (by decide), by simpa using hall 12 (by decide), by simpa using hall 13 (by decide), by simpa using hall 14 (by decide)⟩
    obtain ⟨rfl, rfl, rfl, rfl, rfl, rfl, rfl, rfl, rfl, rfl, rfl, rfl, rfl, rfl, rfl⟩ := hal
    obtain ⟨gA, hA⟩ := hA rfl
    simp only [pkIf_true, List.drop_succ_cons, List.drop_zero]
    clear hall
    have HBE := Lib.hid (HRD.out _ hb).2
    clear hb hA gA
    go_wp2_with fail
    go_ret
    exact ⟨rfl, HBE.out⟩
  case hstep =>
    rintro listed a w' i ⟨l0, l1, l2, l3, l4, l5, l6, l7, l8, l9, l10, l11, l12, l13, l14, A, rfl, rfl, hb, hA⟩ hi hin
    obtain ⟨hf, o', ho', hp⟩ := mem_ready.1 hi
    clear hi
    obtain ⟨q7, q8⟩ := HRD.out w' hb
    match i, hin with
    | 0, _ =>
      obtain rfl : l0 = false := by simpa using hf
      clear hp ho'
      unfold wpOp
      simp only [pkIf_true]
      go_simp
      exact .inl ⟨true, l1, l2, l3, l4, l5, l6, l7, l8, l9, l10, l11, l12, l13, l14, A, rfl, rfl, hb, hA⟩
    | 1, _ =>
      obtain rfl : l1 = false := by simpa using hf
      cases ho'
      obtain rfl : l0 = true := by simpa using hp ⟨0, .data⟩ (by simp) rfl
      clear hp
      unfold wpOp
      simp only [pkIf_true]
      go_simp
      exact .inl ⟨true, true, l2, l3, l4, l5, l6, l7, l8, l9, l10, l11, l12, l13, l14, A, rfl, rfl, hb, hA⟩
    | 2, _ =>
      obtain rfl : l2 = false := by simpa using hf
      cases ho'
      obtain rfl : l1 = true := by simpa using hp ⟨1, .data⟩ (by simp) rfl
      clear hp
      unfold wpOp
      simp only [pkIf_true]
      go_simp
      exact .inl ⟨l0, true, true, l3, l4, l5, l6, l7, l8, l9, l10, l11, l12, l13, l14, A, rfl, rfl, hb, hA⟩
    | 3, _ =>
      obtain rfl : l3 = false := by simpa using hf
      clear hp ho'
      unfold wpOp
      simp only [pkIf_true]
      go_simp
      exact .inl ⟨l0, l1, l2, true, l4, l5, l6, l7, l8, l9, l10, l11, l12, l13, l14, A, rfl, rfl, hb, hA⟩
    | 4, _ =>
      obtain rfl : l4 = false := by simpa using hf
      clear hp ho'
      unfold wpOp
      simp only [pkIf_true]
      go_simp
      exact .inl ⟨l0, l1, l2, l3, true, l5, l6, l7, l8, l9, l10, l11, l12, l13, l14, A, rfl, rfl, hb, hA⟩
    | 5, _ =>
      obtain rfl : l5 = false := by simpa using hf
      cases ho'
      obtain rfl : l3 = true := by simpa using hp ⟨3, .data⟩ (by simp) rfl
      obtain rfl : l4 = true := by simpa using hp ⟨4, .data⟩ (by simp) rfl
      clear hp
      unfold wpOp
      simp only [pkIf_true]
      go_simp
      exact .inl ⟨l0, l1, l2, true, true, true, l6, l7, l8, l9, l10, l11, l12, l13, l14, A, rfl, rfl, hb, hA⟩
    | 6, _ =>
      obtain rfl : l6 = false := by simpa using hf
      clear hp ho'
      unfold wpOp
      simp only [pkIf_true]
      go_simp
      exact .inl ⟨l0, l1, l2, l3, l4, l5, true, l7, l8, l9, l10, l11, l12, l13, l14, A, rfl, rfl, hb, hA⟩
    | 7, _ =>
      obtain rfl : l7 = false := by simpa using hf
      clear hp ho'
      unfold wpOp
      simp only [pkIf_true]
      go_simp
      exact .inl ⟨l0, l1, l2, l3, l4, l5, l6, true, l8, l9, l10, l11, l12, l13, l14, A, rfl, rfl, hb, hA⟩
    | 8, _ =>
      obtain rfl : l8 = false := by simpa using hf
      cases ho'
      obtain rfl : l6 = true := by simpa using hp ⟨6, .data⟩ (by simp) rfl
      obtain rfl : l7 = true := by simpa using hp ⟨7, .data⟩ (by simp) rfl
      clear hp
      unfold wpOp
      simp only [pkIf_true]
      go_simp
      exact .inl ⟨l0, l1, l2, l3, l4, l5, true, true, true, l9, l10, l11, l12, l13, l14, A, rfl, rfl, hb, hA⟩
    | 9, _ =>
      obtain rfl : l9 = false := by simpa using hf
      cases ho'
      obtain rfl : l8 = true := by simpa using hp ⟨8, .data⟩ (by simp) rfl
      clear hp
      unfold wpOp
      simp only [pkIf_true]
      go_simp
      exact .inl ⟨l0, l1, l2, l3, l4, l5, l6, l7, true, true, l10, l11, l12, l13, l14, w'.heap.size, rfl, rfl, hb.alloc hb.size _, fun _ => ⟨hb.size, heap_alloc_new _ _⟩⟩
    | 10, _ =>
      obtain rfl : l10 = false := by simpa using hf
      cases ho'
      obtain rfl : l5 = true := by simpa using hp ⟨5, .data⟩ (by simp) rfl
      obtain rfl : l9 = true := by simpa using hp ⟨9, .data⟩ (by simp) rfl
      clear hp
      unfold wpOp
      simp only [pkIf_true]
      go_simp
      refine .inl ((HGR.out w' A (hA rfl).2).mono ?_)
      rintro e w9 ⟨rfl, rfl⟩
      exact ⟨l0, l1, l2, l3, l4, true, l6, l7, l8, true, true, l11, l12, l13, l14, A, rfl, rfl, hb, hA⟩
    | 11, _ =>
      obtain rfl : l11 = false := by simpa using hf
      cases ho'
      obtain rfl : l2 = true := by simpa using hp ⟨2, .data⟩ (by simp) rfl
      obtain rfl : l10 = true := by simpa using hp ⟨10, .data⟩ (by simp) rfl
      clear hp
      unfold wpOp
      simp only [pkIf_true]
      go_simp
      exact .inl ⟨l0, l1, true, l3, l4, l5, l6, l7, l8, l9, true, true, l12, l13, l14, A, rfl, rfl, hb, hA⟩
    | 12, _ =>
      obtain rfl : l12 = false := by simpa using hf
      cases ho'
      obtain rfl : l11 = true := by simpa using hp ⟨11, .data⟩ (by simp) rfl
      clear hp
      unfold wpOp
      simp only [pkIf_true]
      go_simp
      exact .inl ⟨l0, l1, l2, l3, l4, l5, l6, l7, l8, l9, l10, true, true, l13, l14, A, rfl, rfl, hb, hA⟩
    | 13, _ =>
      obtain rfl : l13 = false := by simpa using hf
      cases ho'
      obtain rfl : l12 = true := by simpa using hp ⟨12, .data⟩ (by simp) rfl
      clear hp
      unfold wpOp
      simp only [pkIf_true]
      go_simp
      exact .inl ⟨l0, l1, l2, l3, l4, l5, l6, l7, l8, l9, l10, l11, true, true, l14, A, rfl, rfl, hb, hA⟩
    | 14, _ =>
      obtain rfl : l14 = false := by simpa using hf
      cases ho'
      obtain rfl : l13 = true := by simpa using hp ⟨13, .data⟩ (by simp) rfl
      clear hp
      unfold wpOp
      simp only [pkIf_true]
      go_simp
      exact .inl ⟨l0, l1, l2, l3, l4, l5, l6, l7, l8, l9, l10, l11, l12, true, true, A, rfl, rfl, hb, hA⟩
def lowI (dr : Int) (h : Th) (t : Int) : Int := h.lo - frI dr h.t t
set_option maxRecDepth 100000 in
set_option maxHeartbeats 4000000 in
theorem dlow_any (z : Ci) (v : Value) (h : Th) (t : Int) (w : World) (hd : 0 ≤ z.dr ∧ z.dr ≤ 60) (hs : 0 ≤ h.t ∧ h.t ≤ 1048576) (ht : 0 ≤ t ∧ t ≤ 1048576) (hz : -300 ≤ h.lo ∧ h.lo ≤ 300) :
    Calls Try.prog 66 #[dlV z v, h.val, .int .i64 t] w fun e w' => e = .returned (.int .i64 (lowI z.dr h t)) ∧ Below w.heap.size w w' := by
  obtain ⟨hi', hc, htk, hx, hy, hss, hsl, hlo, hhi, hno⟩ := h
  simp only at hs hz
  have HFA := Lib.hid (fun w' => far_any z v htk t w' hd hs ht)
  have hb2 := (fr_mul hd hs ht).2
  unfold lowI
  simp only
  obtain ⟨F, hF⟩ : ∃ m, frI z.dr htk t = m := ⟨_, rfl⟩
  rw [hF] at HFA hb2 ⊢
  have e1 : IntKind.i64.wrap (hlo - F) = hlo - F := IntWalk.i64_in _ (by omega)
  obtain ⟨zi, zx, zy, zf, zt, zl, zh, dr⟩ := z
  clear hd hs ht hz hb2 hF
  have HA := Lib.hid (fun W' => two_cells w #[.int .i64 zi, .int .i64 zx, .int .i64 zy, .int .i64 zf, .int .i64 zt, .int .i64 zl, .int .i64 zh, .int .i64 dr, v] #[.int .i64 hi', .int .i64 hc, .int .i64 htk, .int .i64 hx, .int .i64 hy, .int .i64 hss, .int .i64 hsl, .int .i64 hlo, .int .i64 hhi, .bool hno] 112 125 (W := W'))
  have HB0 := Lib.hid (Below.refl ((w.alloc (.cells #[.int .i64 zi, .int .i64 zx, .int .i64 zy, .int .i64 zf, .int .i64 zt, .int .i64 zl, .int .i64 zh, .int .i64 dr, v] 112)).alloc (.cells #[.int .i64 hi', .int .i64 hc, .int .i64 htk, .int .i64 hx, .int .i64 hy, .int .i64 hss, .int .i64 hsl, .int .i64 hlo, .int .i64 hhi, .bool hno] 125)).heap.size ((w.alloc (.cells #[.int .i64 zi, .int .i64 zx, .int .i64 zy, .int .i64 zf, .int .i64 zt, .int .i64 zl, .int .i64 zh, .int .i64 dr, v] 112)).alloc (.cells #[.int .i64 hi', .int .i64 hc, .int .i64 htk, .int .i64 hx, .int .i64 hy, .int .i64 hss, .int .i64 hsl, .int .i64 hlo, .int .i64 hhi, .bool hno] 125)))
  obtain ⟨Z, hZ⟩ : ∃ Z, (w.alloc (.cells #[.int .i64 zi, .int .i64 zx, .int .i64 zy, .int .i64 zf, .int .i64 zt, .int .i64 zl, .int .i64 zh, .int .i64 dr, v] 112)).alloc (.cells #[.int .i64 hi', .int .i64 hc, .int .i64 htk, .int .i64 hx, .int .i64 hy, .int .i64 hss, .int .i64 hsl, .int .i64 hlo, .int .i64 hhi, .bool hno] 125) = Z := ⟨_, rfl⟩
  rw [hZ] at HA HB0
  have HZ := Lib.hid hZ
  have HRD : Hid (∀ W', Below Z.heap.size Z W' → (W'.cell? ⟨w.heap.size, 0, none⟩ = some (.int .i64 zi) ∧ W'.cell? ⟨w.heap.size, 1, none⟩ = some (.int .i64 zx) ∧ W'.cell? ⟨w.heap.size, 2, none⟩ = some (.int .i64 zy) ∧ W'.cell? ⟨w.heap.size, 3, none⟩ = some (.int .i64 zf) ∧ W'.cell? ⟨w.heap.size, 4, none⟩ = some (.int .i64 zt) ∧ W'.cell? ⟨w.heap.size, 5, none⟩ = some (.int .i64 zl) ∧ W'.cell? ⟨w.heap.size, 6, none⟩ = some (.int .i64 zh) ∧ W'.cell? ⟨w.heap.size, 7, none⟩ = some (.int .i64 dr) ∧ W'.cell? ⟨w.heap.size, 8, none⟩ = some v) ∧ (W'.cell? ⟨w.heap.size + 1, 2, none⟩ = some (.int .i64 htk) ∧ W'.cell? ⟨w.heap.size + 1, 7, none⟩ = some (.int .i64 hlo) ∧ W'.cell? ⟨w.heap.size + 1, 8, none⟩ = some (.int .i64 hhi)) ∧ Below w.heap.size w W') := Lib.hid (fun W' h => by
    obtain ⟨x1, x2, _, x3⟩ := HA.out W' h
    exact ⟨⟨cellH x1 0, cellH x1 1, cellH x1 2, cellH x1 3, cellH x1 4, cellH x1 5, cellH x1 6, cellH x1 7, cellH x1 8⟩, ⟨cellH x2 2, cellH x2 7, cellH x2 8⟩, x3⟩)
  have C1 := Lib.hid (upC (Z := Z) HFA.out)
  clear hZ
  go_enter Try.func66, Try.ntmps66
  go_wp2_with fail
  rw [HZ.out]
  refine wp_region_turn 10 (fun _ w' => Below Z.heap.size Z w') (by kernel_rfl) (by kernel_rfl) ((Below.refl _ Z).drew) ?_
  simp only [List.take_succ_cons, List.take_zero, List.drop_succ_cons, List.drop_zero]
  iterate 10
    (first
      | (apply turnC_step (by rfl); (intro w' hw'; obtain ⟨⟨q0, q1, q2, q3, q4, q5, q6, q7, q8⟩, ⟨r0, r1, r2⟩, _⟩ := HRD.out w' hw'; go_simp; first | with_reducible exact ⟨hw', congrArg (Value.int .i64) e1⟩ | with_reducible exact ⟨hw', rfl⟩ | with_reducible exact rfl))
      | (apply turnC_step (by rfl); (intro w' hw'; go_simp; with_reducible exact C1.out w' hw')))
    simp only [Act.put, List.setIfInBounds_toArray, List.set_cons_succ, List.set_cons_zero]
  intro listed w5 _ hw5
  have HBE := Lib.hid (HRD.out _ hw5).2.2
  clear hw5
  go_wp2_with fail
  go_ret
  exact ⟨rfl, HBE.out⟩
def highI (dr : Int) (h : Th) (t : Int) : Int := h.hi + frI dr h.t t
set_option maxRecDepth 100000 in
set_option maxHeartbeats 4000000 in
theorem dhigh_any (z : Ci) (v : Value) (h : Th) (t : Int) (w : World) (hd : 0 ≤ z.dr ∧ z.dr ≤ 60) (hs : 0 ≤ h.t ∧ h.t ≤ 1048576) (ht : 0 ≤ t ∧ t ≤ 1048576) (hz : -300 ≤ h.hi ∧ h.hi ≤ 300) :
    Calls Try.prog 68 #[dlV z v, h.val, .int .i64 t] w fun e w' => e = .returned (.int .i64 (highI z.dr h t)) ∧ Below w.heap.size w w' := by
  obtain ⟨hi', hc, htk, hx, hy, hss, hsl, hlo, hhi, hno⟩ := h
  simp only at hs hz
  have HFA := Lib.hid (fun w' => far_any z v htk t w' hd hs ht)
  have hb2 := (fr_mul hd hs ht).2
  unfold highI
  simp only
  obtain ⟨F, hF⟩ : ∃ m, frI z.dr htk t = m := ⟨_, rfl⟩
  rw [hF] at HFA hb2 ⊢
  have e1 : IntKind.i64.wrap (hhi + F) = hhi + F := IntWalk.i64_in _ (by omega)
  obtain ⟨zi, zx, zy, zf, zt, zl, zh, dr⟩ := z
  clear hd hs ht hz hb2 hF
  have HA := Lib.hid (fun W' => two_cells w #[.int .i64 zi, .int .i64 zx, .int .i64 zy, .int .i64 zf, .int .i64 zt, .int .i64 zl, .int .i64 zh, .int .i64 dr, v] #[.int .i64 hi', .int .i64 hc, .int .i64 htk, .int .i64 hx, .int .i64 hy, .int .i64 hss, .int .i64 hsl, .int .i64 hlo, .int .i64 hhi, .bool hno] 112 125 (W := W'))
  have HB0 := Lib.hid (Below.refl ((w.alloc (.cells #[.int .i64 zi, .int .i64 zx, .int .i64 zy, .int .i64 zf, .int .i64 zt, .int .i64 zl, .int .i64 zh, .int .i64 dr, v] 112)).alloc (.cells #[.int .i64 hi', .int .i64 hc, .int .i64 htk, .int .i64 hx, .int .i64 hy, .int .i64 hss, .int .i64 hsl, .int .i64 hlo, .int .i64 hhi, .bool hno] 125)).heap.size ((w.alloc (.cells #[.int .i64 zi, .int .i64 zx, .int .i64 zy, .int .i64 zf, .int .i64 zt, .int .i64 zl, .int .i64 zh, .int .i64 dr, v] 112)).alloc (.cells #[.int .i64 hi', .int .i64 hc, .int .i64 htk, .int .i64 hx, .int .i64 hy, .int .i64 hss, .int .i64 hsl, .int .i64 hlo, .int .i64 hhi, .bool hno] 125)))
  obtain ⟨Z, hZ⟩ : ∃ Z, (w.alloc (.cells #[.int .i64 zi, .int .i64 zx, .int .i64 zy, .int .i64 zf, .int .i64 zt, .int .i64 zl, .int .i64 zh, .int .i64 dr, v] 112)).alloc (.cells #[.int .i64 hi', .int .i64 hc, .int .i64 htk, .int .i64 hx, .int .i64 hy, .int .i64 hss, .int .i64 hsl, .int .i64 hlo, .int .i64 hhi, .bool hno] 125) = Z := ⟨_, rfl⟩
  rw [hZ] at HA HB0
  have HZ := Lib.hid hZ
  have HRD : Hid (∀ W', Below Z.heap.size Z W' → (W'.cell? ⟨w.heap.size, 0, none⟩ = some (.int .i64 zi) ∧ W'.cell? ⟨w.heap.size, 1, none⟩ = some (.int .i64 zx) ∧ W'.cell? ⟨w.heap.size, 2, none⟩ = some (.int .i64 zy) ∧ W'.cell? ⟨w.heap.size, 3, none⟩ = some (.int .i64 zf) ∧ W'.cell? ⟨w.heap.size, 4, none⟩ = some (.int .i64 zt) ∧ W'.cell? ⟨w.heap.size, 5, none⟩ = some (.int .i64 zl) ∧ W'.cell? ⟨w.heap.size, 6, none⟩ = some (.int .i64 zh) ∧ W'.cell? ⟨w.heap.size, 7, none⟩ = some (.int .i64 dr) ∧ W'.cell? ⟨w.heap.size, 8, none⟩ = some v) ∧ (W'.cell? ⟨w.heap.size + 1, 2, none⟩ = some (.int .i64 htk) ∧ W'.cell? ⟨w.heap.size + 1, 7, none⟩ = some (.int .i64 hlo) ∧ W'.cell? ⟨w.heap.size + 1, 8, none⟩ = some (.int .i64 hhi)) ∧ Below w.heap.size w W') := Lib.hid (fun W' h => by
    obtain ⟨x1, x2, _, x3⟩ := HA.out W' h
    exact ⟨⟨cellH x1 0, cellH x1 1, cellH x1 2, cellH x1 3, cellH x1 4, cellH x1 5, cellH x1 6, cellH x1 7, cellH x1 8⟩, ⟨cellH x2 2, cellH x2 7, cellH x2 8⟩, x3⟩)
  have C1 := Lib.hid (upC (Z := Z) HFA.out)
  clear hZ
  go_enter Try.func68, Try.ntmps68
  go_wp2_with fail
  rw [HZ.out]
  refine wp_region_turn 10 (fun _ w' => Below Z.heap.size Z w') (by kernel_rfl) (by kernel_rfl) ((Below.refl _ Z).drew) ?_
  simp only [List.take_succ_cons, List.take_zero, List.drop_succ_cons, List.drop_zero]
  iterate 10
    (first
      | (apply turnC_step (by rfl); (intro w' hw'; obtain ⟨⟨q0, q1, q2, q3, q4, q5, q6, q7, q8⟩, ⟨r0, r1, r2⟩, _⟩ := HRD.out w' hw'; go_simp; first | with_reducible exact ⟨hw', congrArg (Value.int .i64) e1⟩ | with_reducible exact ⟨hw', rfl⟩ | with_reducible exact rfl))
      | (apply turnC_step (by rfl); (intro w' hw'; go_simp; with_reducible exact C1.out w' hw')))
    simp only [Act.put, List.setIfInBounds_toArray, List.set_cons_succ, List.set_cons_zero]
  intro listed w5 _ hw5
  have HBE := Lib.hid (HRD.out _ hw5).2.2
  clear hw5
  go_wp2_with fail
  go_ret
  exact ⟨rfl, HBE.out⟩
end Go.Proofs.Ytpaihnjgpookjaa
