/- Package firetowerref05: Meet, and what two wedges have in common. -/
import Derived.Test.YtpaihnjgpookjaaCDB
import Derived.Test.YtpaihnjgpookjaaCAB
set_option linter.unusedVariables false
set_option linter.unusedSimpArgs false
namespace Go.Proofs.Ytpaihnjgpookjaa
open Go Go.RowKit

/-- Where the directions that two wedges have in common begin and end, as steps from the beginning of the first one. -/
def mLo (af at' bf : Int) : Int := if (bf - af) % 3600 ≤ opI af at' then (bf - af) % 3600 else 0
def mHi (af at' bf bt : Int) : Int := if (bf - af) % 3600 ≤ opI af at' then (bf - af) % 3600 + opI bf bt else opI bf bt - (af - bf) % 3600
theorem mt_in {af at' bf bt k : Int} (ha : vwB af at' = true) (hb : vwB bf bt = true) (hk : 0 ≤ k ∧ k ≤ opI af at') : hsB bf bt ((af + k) % 3600) 1 = decide (mLo af at' bf ≤ k ∧ k ≤ mHi af at' bf bt) := by
  obtain ⟨a1, a2, a3, a4, a5⟩ := vw_ok ha
  obtain ⟨b1, b2, b3, b4, b5⟩ := vw_ok hb
  unfold hsB psI mLo mHi
  clear a3 b3
  generalize opI af at' = oa at *
  generalize opI bf bt = ob at *
  simp only [Int.mul_one]
  rw [decide_eq_decide]
  (repeat' split) <;> omega
theorem mLo_bd {af at' bf : Int} (ha : vwB af at' = true) : 0 ≤ mLo af at' bf ∧ mLo af at' bf ≤ opI af at' := by
  obtain ⟨a1, a2, a3, a4, a5⟩ := vw_ok ha
  unfold mLo
  split <;> omega
/-- The first and the last common direction among the first steps. -/
def mtF (af at' bf bt k : Int) : Int := if mLo af at' bf < k ∧ mLo af at' bf ≤ mHi af at' bf bt then (af + mLo af at' bf) % 3600 else -1
def mtT (af at' bf bt k : Int) : Int := if mLo af at' bf < k ∧ mLo af at' bf ≤ mHi af at' bf bt then (af + min (k - 1) (mHi af at' bf bt)) % 3600 else -1
theorem mt_zero {af at' bf bt : Int} (ha : vwB af at' = true) : mtF af at' bf bt 0 = -1 ∧ mtT af at' bf bt 0 = -1 := by
  obtain ⟨h1, _⟩ := mLo_bd (bf := bf) ha
  unfold mtF mtT
  rw [if_neg (by omega), if_neg (by omega)]
  exact ⟨rfl, rfl⟩
theorem mt_step {af at' bf bt k : Int} (ha : vwB af at' = true) (hb : vwB bf bt = true) (hk : 0 ≤ k ∧ k ≤ opI af at') :
    (hsB bf bt ((af + k) % 3600) 1 = true → mtF af at' bf bt (k + 1) = (if mtF af at' bf bt k < 0 then (af + k) % 3600 else mtF af at' bf bt k) ∧ mtT af at' bf bt (k + 1) = (af + k) % 3600) ∧
    (hsB bf bt ((af + k) % 3600) 1 = false → mtF af at' bf bt (k + 1) = mtF af at' bf bt k ∧ mtT af at' bf bt (k + 1) = mtT af at' bf bt k) := by
  rw [mt_in ha hb hk]
  obtain ⟨h1, h2⟩ := mLo_bd (bf := bf) ha
  unfold mtF mtT
  generalize mLo af at' bf = lo at *
  generalize mHi af at' bf bt = hi at *
  refine ⟨fun h => ?_, fun h => ?_⟩
  · have h := of_decide_eq_true h
    have p1 : lo < k + 1 ∧ lo ≤ hi := by omega
    rw [if_pos p1, if_pos p1, show min (k + 1 - 1) hi = k by omega]
    refine ⟨?_, rfl⟩
    by_cases hl : lo < k
    · have p2 : lo < k ∧ lo ≤ hi := by omega
      rw [if_pos p2, if_neg (by omega)]
    · have p2 : ¬ (lo < k ∧ lo ≤ hi) := by omega
      rw [if_neg p2, if_pos (by decide), show k = lo by omega]
  · have h := of_decide_eq_false h
    by_cases hl : lo < k ∧ lo ≤ hi
    · have p1 : lo < k + 1 ∧ lo ≤ hi := by omega
      rw [if_pos p1, if_pos p1, if_pos hl, if_pos hl, show min (k + 1 - 1) hi = min (k - 1) hi by omega]
      exact ⟨rfl, rfl⟩
    · have p1 : ¬ (lo < k + 1 ∧ lo ≤ hi) := by omega
      rw [if_neg p1, if_neg p1, if_neg hl, if_neg hl]
      exact ⟨rfl, rfl⟩
/-- What two wedges have in common, by its parts. -/
def mtB (af at' bf bt : Int) : Bool := vwB af at' && vwB bf bt && decide (mLo af at' bf ≤ mHi af at' bf bt)
def mtFr (af at' bf bt : Int) : Int := if mtB af at' bf bt = true then (af + mLo af at' bf) % 3600 else 0
def mtTo (af at' bf bt : Int) : Int := if mtB af at' bf bt = true then (af + min (opI af at') (mHi af at' bf bt)) % 3600 else 0
theorem mt_last {af at' bf bt : Int} (ha : vwB af at' = true) (hb : vwB bf bt = true) :
    (mtF af at' bf bt (opI af at' + 1) < 0 ↔ mtB af at' bf bt = false) ∧ (mtB af at' bf bt = true → mtF af at' bf bt (opI af at' + 1) = mtFr af at' bf bt ∧ mtT af at' bf bt (opI af at' + 1) = mtTo af at' bf bt) := by
  obtain ⟨h1, h2⟩ := mLo_bd (bf := bf) ha
  unfold mtF mtT mtFr mtTo mtB
  rw [ha, hb]
  simp only [Bool.true_and]
  generalize mLo af at' bf = lo at *
  generalize mHi af at' bf bt = hi at *
  generalize opI af at' = oa at *
  by_cases h : lo ≤ hi
  · have p1 : lo < oa + 1 ∧ lo ≤ hi := by omega
    rw [decide_eq_true h, if_pos p1, if_pos p1, if_pos rfl, if_pos rfl, show oa + 1 - 1 = oa by omega]
    exact ⟨⟨fun h => by omega, fun h => by cases h⟩, fun _ => ⟨rfl, rfl⟩⟩
  · have p1 : ¬ (lo < oa + 1 ∧ lo ≤ hi) := by omega
    rw [decide_eq_false h, if_neg p1]
    exact ⟨⟨fun _ => rfl, fun _ => by decide⟩, fun h => by cases h⟩
theorem mtV_eq (af at' bf bt : Int) : mtV af at' bf bt = .tuple #[.agg #[.int .i64 (mtFr af at' bf bt), .int .i64 (mtTo af at' bf bt)], .bool (mtB af at' bf bt)] := by
  have hN : mtB af at' bf bt = false → (.tuple #[.agg #[.int .i64 (mtFr af at' bf bt), .int .i64 (mtTo af at' bf bt)], .bool (mtB af at' bf bt)] : Value) = mtN := fun h => by
    unfold mtFr mtTo
    rw [h]; rfl
  by_cases ha : vwB af at' = true
  · by_cases hb : vwB bf bt = true
    · rw [mtV, if_pos ha, if_pos hb]
      obtain ⟨a1, a2, a3, a4, a5⟩ := vw_ok ha
      obtain ⟨b1, b2, b3, b4, b5⟩ := vw_ok hb
      by_cases hm : opI af at' < (bf - af) % 3600
      · have hlo : mLo af at' bf = 0 := by unfold mLo; rw [if_neg (by omega)]
        have hhi : mHi af at' bf bt = opI bf bt - (af - bf) % 3600 := by unfold mHi; rw [if_neg (by omega)]
        rw [if_pos hm]
        unfold mtK mtL
        by_cases hl : opI bf bt - (af - bf) % 3600 < 0
        · rw [if_pos hl, hN (by unfold mtB; rw [ha, hb, hlo, hhi, decide_eq_false (by omega)]; rfl)]
        · have hB : mtB af at' bf bt = true := by unfold mtB; rw [ha, hb, hlo, hhi, decide_eq_true (by omega)]; rfl
          unfold mtFr mtTo
          rw [hB, if_neg hl, if_pos rfl, if_pos rfl, hlo, hhi, show (af + 0) % 3600 = af by omega, Int.min_comm]
      · have hlo : mLo af at' bf = (bf - af) % 3600 := by unfold mLo; rw [if_pos (by omega)]
        have hhi : mHi af at' bf bt = (bf - af) % 3600 + opI bf bt := by unfold mHi; rw [if_pos (by omega)]
        have hB : mtB af at' bf bt = true := by unfold mtB; rw [ha, hb, hlo, hhi, decide_eq_true (by omega)]; rfl
        rw [if_neg hm]
        unfold mtK mtL mtFr mtTo
        rw [hB, if_neg (by omega), if_pos rfl, if_pos rfl, hlo, hhi, show (af + (bf - af) % 3600) % 3600 = bf by omega, show (bf + min (opI af at' - (bf - af) % 3600) (opI bf bt)) % 3600 = (af + min (opI af at') ((bf - af) % 3600 + opI bf bt)) % 3600 by omega]
    · rw [mtV, if_pos ha, if_neg hb, hN (by unfold mtB; rw [ha, Bool.eq_false_iff.2 hb]; rfl)]
  · rw [mtV, if_neg ha, hN (by unfold mtB; rw [Bool.eq_false_iff.2 ha]; rfl)]
theorem mt_none {af at' bf bt : Int} (h : mtB af at' bf bt = false) : mtFr af at' bf bt = 0 ∧ mtTo af at' bf bt = 0 := by
  unfold mtFr mtTo
  rw [h]
  exact ⟨rfl, rfl⟩
theorem mt_all {af at' bf bt : Int} (ha : vwB af at' = true) (hb : vwB bf bt = true) : ∃ (F T : Int → Int) (I : Int → Bool), F 0 = -1 ∧ T 0 = -1 ∧ (∀ k, 0 ≤ k ∧ k ≤ opI af at' → I k = hsB bf bt ((af + k) % 3600) 1 ∧ (I k = true → F (k + 1) = (if F k < 0 then (af + k) % 3600 else F k) ∧ T (k + 1) = (af + k) % 3600) ∧ (I k = false → F (k + 1) = F k ∧ T (k + 1) = T k)) ∧
    (F (opI af at' + 1) < 0 ↔ mtB af at' bf bt = false) ∧ (mtB af at' bf bt = true → F (opI af at' + 1) = mtFr af at' bf bt ∧ T (opI af at' + 1) = mtTo af at' bf bt) :=
  ⟨fun k => mtF af at' bf bt k, fun k => mtT af at' bf bt k, fun k => hsB bf bt ((af + k) % 3600) 1, (mt_zero ha).1, (mt_zero ha).2, fun k hk => ⟨rfl, (mt_step ha hb hk).1, (mt_step ha hb hk).2⟩, (mt_last ha hb).1, (mt_last ha hb).2⟩
set_option maxRecDepth 100000 in
set_option maxHeartbeats 8000000 in
theorem pMeet_any (af at' bf bt : Int) (w : World) : Calls Try.prog 9 #[.agg #[.int .i64 af, .int .i64 at'], .agg #[.int .i64 bf, .int .i64 bt]] w fun e w' => e = .returned (.agg #[.int .i64 (mtFr af at' bf bt), .int .i64 (mtTo af at' bf bt), .bool (mtB af at' bf bt)]) ∧ Below w.heap.size w w' := by
  have H1 := Lib.hid (fun w' => pRight_any af at' w')
  have H2 := Lib.hid (fun w' => pRight_any bf bt w')
  have HO := Lib.hid (fun w' => pOpening_any af at' w')
  have HT := Lib.hid (fun (k : Int) w' => pTurn_any (af + k) w')
  have HHS : Hid (∀ (k : Int) w', vwB bf bt = true → Calls Try.prog 35 #[.agg #[.int .i64 bf, .int .i64 bt], .agg #[.int .i64 ((af + k) % 3600), .int .i64 1]] w' fun e w'' => e = .returned (.bool (hsB bf bt ((af + k) % 3600) 1)) ∧ Below w'.heap.size w' w'') := Lib.hid (fun k w' hv => pHas_any bf bt _ 1 w' (vw_ok hv).1 (vw_ok hv).2.2.2 (by omega) (by omega))
  have HALL := Lib.hid (mt_all (af := af) (at' := at') (bf := bf) (bt := bt))
  have HVA := Lib.hid (vw_ok (f := af) (t := at'))
  have HNO := Lib.hid (mt_none (af := af) (at' := at') (bf := bf) (bt := bt))
  have HBB : Hid (vwB af at' = false ∨ vwB bf bt = false → mtB af at' bf bt = false) := Lib.hid (fun h => by unfold mtB; rcases h with h | h <;> rw [h] <;> simp)
  obtain ⟨va, hva⟩ : ∃ z, vwB af at' = z := ⟨_, rfl⟩
  obtain ⟨vb, hvb⟩ : ∃ z, vwB bf bt = z := ⟨_, rfl⟩
  obtain ⟨B, hB⟩ : ∃ z, mtB af at' bf bt = z := ⟨_, rfl⟩
  obtain ⟨FR, hFR⟩ : ∃ z, mtFr af at' bf bt = z := ⟨_, rfl⟩
  obtain ⟨TO, hTO⟩ : ∃ z, mtTo af at' bf bt = z := ⟨_, rfl⟩
  obtain ⟨oa, hoa⟩ : ∃ z, opI af at' = z := ⟨_, rfl⟩
  rw [hva] at H1 HALL HVA HBB
  rw [hvb] at H2 HALL HHS HBB
  rw [hoa] at HO HALL HVA
  rw [hB] at HALL HNO HBB ⊢
  rw [hFR] at HALL HNO ⊢
  rw [hTO] at HALL HNO ⊢
  clear hva hvb hB hFR hTO hoa
  have HA := Lib.hid (fun W' => cells3 w #[.int .i64 af, .int .i64 at'] #[.int .i64 bf, .int .i64 bt] #[.int .i64 0, .int .i64 0, .bool false] 23 23 29 (W := W'))
  have HB0 := Lib.hid (Below.refl (((w.alloc (.cells #[.int .i64 af, .int .i64 at'] 23)).alloc (.cells #[.int .i64 bf, .int .i64 bt] 23)).alloc (.cells #[.int .i64 0, .int .i64 0, .bool false] 29)).heap.size (((w.alloc (.cells #[.int .i64 af, .int .i64 at'] 23)).alloc (.cells #[.int .i64 bf, .int .i64 bt] 23)).alloc (.cells #[.int .i64 0, .int .i64 0, .bool false] 29)))
  obtain ⟨Z, hZ⟩ : ∃ Z, (((w.alloc (.cells #[.int .i64 af, .int .i64 at'] 23)).alloc (.cells #[.int .i64 bf, .int .i64 bt] 23)).alloc (.cells #[.int .i64 0, .int .i64 0, .bool false] 29)) = Z := ⟨_, rfl⟩
  rw [hZ] at HA HB0
  have HZ := Lib.hid hZ
  clear hZ
  have HRD : Hid (∀ W', Below Z.heap.size Z W' → (W'.cell? ⟨w.heap.size, 0, none⟩ = some (.int .i64 af) ∧ W'.cell? ⟨w.heap.size, 1, none⟩ = some (.int .i64 at')) ∧ (W'.cell? ⟨w.heap.size + 1, 0, none⟩ = some (.int .i64 bf) ∧ W'.cell? ⟨w.heap.size + 1, 1, none⟩ = some (.int .i64 bt)) ∧ (W'.cell? ⟨w.heap.size + 1 + 1, 0, none⟩ = some (.int .i64 0) ∧ W'.cell? ⟨w.heap.size + 1 + 1, 1, none⟩ = some (.int .i64 0) ∧ W'.cell? ⟨w.heap.size + 1 + 1, 2, none⟩ = some (.bool false)) ∧ (∀ o, W'.frozen? ⟨w.heap.size + 1 + 1, o, none⟩ = false)) := Lib.hid (fun W' h => by
    obtain ⟨x1, x2, x3, _⟩ := HA.out W' h
    exact ⟨⟨cellH x1 0, cellH x1 1⟩, ⟨cellH x2 0, cellH x2 1⟩, ⟨cellH x3 0, cellH x3 1, cellH x3 2⟩, freeH x3⟩)
  go_enter Try.func9, Try.ntmps9
  go_wp2_with fail
  rw [HZ.out]
  refine (H1.out _).mono ?_
  rintro e w1 ⟨rfl, hb1⟩
  have HB1 := Lib.hid hb1
  clear hb1
  obtain ⟨⟨q0, q1⟩, ⟨p0, p1⟩, ⟨r0, r1, r2⟩, rf⟩ := HRD.out w1 HB1.out
  go_wp2_with fail
  refine (H2.out _).mono ?_
  rintro e w2 ⟨rfl, hb2⟩
  have HB2 := Lib.hid (HB1.out.trans (hb2.mono HB1.out.size))
  clear hb2 q0 q1 p0 p1 r0 r1 r2 rf
  obtain ⟨⟨q0, q1⟩, ⟨p0, p1⟩, ⟨r0, r1, r2⟩, rf⟩ := HRD.out w2 HB2.out
  cases va
  · have HN := Lib.hid (HBB.out (.inl rfl))
    go_wp2_with fail
    obtain ⟨_, _, z0, _, zb⟩ := HA.out w2 HB2.out
    obtain ⟨z1, z2⟩ := set3 z0 zb (by omega) (.int .i64 0) (.int .i64 0) (.bool false)
    refine bodyPost_ret (results_cell_row Try.results9 _ _ (w.heap.size + 1 + 1) 29 _ (0, 0) _ rfl z1 Try.underlying29 rfl info_mt3) rfl ?_
    exact ⟨by first | rw [(HNO.out HN.out).1, (HNO.out HN.out).2, HN.out] | rw [(HNO.out (by trivial)).1, (HNO.out (by trivial)).2], z2⟩
  cases vb
  · have HN := Lib.hid (HBB.out (.inr rfl))
    go_wp2_with fail
    obtain ⟨_, _, z0, _, zb⟩ := HA.out w2 HB2.out
    obtain ⟨z1, z2⟩ := set3 z0 zb (by omega) (.int .i64 0) (.int .i64 0) (.bool false)
    refine bodyPost_ret (results_cell_row Try.results9 _ _ (w.heap.size + 1 + 1) 29 _ (0, 0) _ rfl z1 Try.underlying29 rfl info_mt3) rfl ?_
    exact ⟨by first | rw [(HNO.out HN.out).1, (HNO.out HN.out).2, HN.out] | rw [(HNO.out (by trivial)).1, (HNO.out (by trivial)).2], z2⟩
  obtain ⟨F, T, I, z1, z2, st, la1, la2⟩ := HALL.out rfl rfl
  have HZ0 := Lib.hid (And.intro z1 z2)
  have HST := Lib.hid st
  have HLA := Lib.hid (And.intro la1 la2)
  have HLIM := Lib.hid (HVA.out rfl)
  clear z1 z2 st la1 la2 HALL HVA HBB q0 q1 p0 p1 r0 r1 r2 rf
  go_wp2_with fail
  go_loopw [7, 8, 9] (fun x y z wr => ∃ (k : Nat) (f t : Int), (k : Int) ≤ oa + 1 ∧ x = .int .i64 f ∧ y = .int .i64 t ∧ z = .int .i64 k ∧ Hid (f = F k ∧ t = T k) ∧ Hid (Below Z.heap.size Z wr)) (fun _ _ z _ => (oa + 1 - intOf z).toNat)
  case atStart => exact ⟨0, -1, -1, by have := HLIM.out; omega, rfl, rfl, rfl, Lib.hid ⟨HZ0.out.1.symm, HZ0.out.2.symm⟩, HB2⟩
  case round =>
    obtain ⟨k, f, t, hk, rfl, rfl, rfl, hFT, hB⟩ := hrel
    obtain ⟨⟨q0, q1⟩, ⟨p0, p1⟩, ⟨r0, r1, r2⟩, rf⟩ := HRD.out wr hB.out
    go_wp2_with fail
    refine (HO.out _).mono ?_
    rintro e w3 ⟨rfl, hb3⟩
    have HB3 := Lib.hid (hB.out.trans (hb3.mono hB.out.size))
    clear hb3 q0 q1 p0 p1 r0 r1 r2 rf hB
    obtain ⟨⟨q0, q1⟩, ⟨p0, p1⟩, ⟨r0, r1, r2⟩, rf⟩ := HRD.out w3 HB3.out
    by_cases hko : (k : Int) ≤ oa
    · have HST1 := Lib.hid (HST.out k ⟨by omega, hko⟩)
      have hl := HLIM.out
      have e1 : IntKind.i64.wrap (af + (k : Int)) = af + (k : Int) := IntWalk.i64_in _ (by omega)
      have e2 : IntKind.i64.wrap ((k : Int) + 1) = (k : Int) + 1 := IntWalk.i64_in _ (by omega)
      have HKO := Lib.hid hko
      have HT1 := Lib.hid (HT.out k)
      have HH1 := Lib.hid (fun w' => HHS.out k w' (by trivial))
      rw [← HST1.out.1] at HH1
      obtain ⟨d, hd⟩ : ∃ d, (af + (k : Int)) % 3600 = d := ⟨_, rfl⟩
      obtain ⟨i, hi⟩ : ∃ i, I (k : Int) = i := ⟨_, rfl⟩
      rw [hd] at HT1 HH1 HST1
      rw [hi] at HH1 HST1
      clear hd hi hl
      go_wp2_with fail
      refine (HT1.out _).mono ?_
      rintro e w4 ⟨rfl, rfl⟩
      go_wp2_with fail
      refine (HH1.out _).mono ?_
      rintro e w5 ⟨rfl, hb5⟩
      have HB5 := Lib.hid (HB3.out.trans (hb5.mono HB3.out.size))
      clear hb5 q0 q1 p0 p1 r0 r1 r2 rf
      cases i
      · have HN1 : Hid (F ((k + 1 : Nat) : Int) = f ∧ T ((k + 1 : Nat) : Int) = t) := Lib.hid (by
          rw [show ((k + 1 : Nat) : Int) = (k : Int) + 1 by omega, hFT.out.1, hFT.out.2]; exact HST1.out.2.2 rfl)
        go_wp2_with fail
        go_roundw
        case rel => exact ⟨k + 1, f, t, by have := HKO.out; omega, rfl, rfl, by go_num, Lib.hid ⟨HN1.out.1.symm, HN1.out.2.symm⟩, HB5⟩
        case measure => have := HKO.out; simp [intOf]; omega
      by_cases hf0 : f < 0
      · have HN1 : Hid (F ((k + 1 : Nat) : Int) = d ∧ T ((k + 1 : Nat) : Int) = d) := Lib.hid (by
          have h := HST1.out.2.1 rfl
          rw [← hFT.out.1, if_pos hf0] at h
          rw [show ((k + 1 : Nat) : Int) = (k : Int) + 1 by omega]; exact h)
        go_wp2_with fail
        go_roundw
        case rel => exact ⟨k + 1, d, d, by have := HKO.out; omega, rfl, rfl, by go_num, Lib.hid ⟨HN1.out.1.symm, HN1.out.2.symm⟩, HB5⟩
        case measure => have := HKO.out; simp [intOf]; omega
      · have HN1 : Hid (F ((k + 1 : Nat) : Int) = f ∧ T ((k + 1 : Nat) : Int) = d) := Lib.hid (by
          have h := HST1.out.2.1 rfl
          rw [← hFT.out.1, if_neg hf0] at h
          rw [show ((k + 1 : Nat) : Int) = (k : Int) + 1 by omega]; exact h)
        go_wp2_with fail
        go_roundw
        case rel => exact ⟨k + 1, f, d, by have := HKO.out; omega, rfl, rfl, by go_num, Lib.hid ⟨HN1.out.1.symm, HN1.out.2.symm⟩, HB5⟩
        case measure => have := HKO.out; simp [intOf]; omega
    · have hke : (k : Int) = oa + 1 := by omega
      have HFT2 := hFT.out
      rw [hke] at HFT2
      have HFT3 := Lib.hid HFT2
      clear HFT2 hke
      cases B
      · have hf0 : f < 0 := by rw [HFT3.out.1]; exact HLA.out.1.2 rfl
        have HN : Hid (false = false) := Lib.hid rfl
        go_wp2_with fail
        obtain ⟨_, _, z0, _, zb⟩ := HA.out w3 HB3.out
        obtain ⟨z1, z2⟩ := set3 z0 zb (by omega) (.int .i64 0) (.int .i64 0) (.bool false)
        refine bodyPost_ret (results_cell_row Try.results9 _ _ (w.heap.size + 1 + 1) 29 _ (0, 0) _ rfl z1 Try.underlying29 rfl info_mt3) rfl ?_
        exact ⟨by first | rw [(HNO.out HN.out).1, (HNO.out HN.out).2, HN.out] | rw [(HNO.out (by trivial)).1, (HNO.out (by trivial)).2], z2⟩
      · have hf0 : ¬ f < 0 := by rw [HFT3.out.1]; intro h; have := HLA.out.1.1 h; cases this
        have HFE : Hid (f = FR ∧ t = TO) := Lib.hid ⟨HFT3.out.1.trans (HLA.out.2 rfl).1, HFT3.out.2.trans (HLA.out.2 rfl).2⟩
        go_wp2_with fail
        obtain ⟨_, _, z0, _, zb⟩ := HA.out w3 HB3.out
        obtain ⟨z1, z2⟩ := set3 z0 zb (by omega) (.int .i64 f) (.int .i64 t) (.bool true)
        refine bodyPost_ret (results_cell_row Try.results9 _ _ (w.heap.size + 1 + 1) 29 _ (0, 0) _ rfl z1 Try.underlying29 rfl info_mt3) rfl ?_
        exact ⟨by rw [HFE.out.1, HFE.out.2], z2⟩
end Go.Proofs.Ytpaihnjgpookjaa
