/- Package firetowerref05: Can, alone. -/
import Derived.Test.YtebdboacmeafaaaGreatCEA
import Derived.Test.YtebdboacmeafaaaGreatCB3
import Derived.Test.YtebdboacmeafaaaGreatCDB
import Derived.Test.YtebdboacmeafaaaGreatCE3
set_option linter.unusedVariables false
set_option linter.unusedSimpArgs false
namespace Go.Proofs.YtebdboacmeafaaaGreat
open Go Go.RowKit

/-- A reading can be, in one of the turns. -/
def c1B (s sl num den z j : Int) : Bool := decide (-sl * den ≤ num + (z - s + 3600 * j) * den) && decide (num + (z - s + 3600 * j) * den ≤ sl * den)
def cnB (s sl num den z : Int) : Bool := c1B s sl num den z (-2) || c1B s sl num den z (-1) || c1B s sl num den z 0 || c1B s sl num den z 1 || c1B s sl num den z 2
theorem cn_true {s sl num den z j : Int} (hj : -2 ≤ j ∧ j ≤ 2) (h : c1B s sl num den z j = true) : cnB s sl num den z = true := by
  unfold cnB
  rcases (by omega : j = -2 ∨ j = -1 ∨ j = 0 ∨ j = 1 ∨ j = 2) with rfl | rfl | rfl | rfl | rfl <;> rw [h] <;> simp
theorem cn_false {s sl num den z : Int} (h : ∀ j, -2 ≤ j → j < 3 → c1B s sl num den z j = false) : cnB s sl num den z = false := by
  unfold cnB
  rw [h (-2) (by omega) (by omega), h (-1) (by omega) (by omega), h 0 (by omega) (by omega), h 1 (by omega) (by omega), h 2 (by omega) (by omega)]; rfl
theorem cn_iff {s sl num den z : Int} : cnB s sl num den z = true ↔ ∃ j, (-2 ≤ j ∧ j ≤ 2) ∧ c1B s sl num den z j = true := by
  constructor
  · intro h
    unfold cnB at h
    simp only [Bool.or_eq_true] at h
    rcases h with (((h | h) | h) | h) | h
    · exact ⟨_, by omega, h⟩
    · exact ⟨_, by omega, h⟩
    · exact ⟨_, by omega, h⟩
    · exact ⟨_, by omega, h⟩
    · exact ⟨_, by omega, h⟩
  · rintro ⟨j, hj, h⟩
    exact cn_true hj h
/-- One turn: by the bearing's neighbours. -/
theorem c1_iff {s sl num den z j : Int} (hd : 1 ≤ den) : c1B s sl num den z j = true ↔ (num + den - 1) / den ≤ sl - (z - s + 3600 * j) ∧ -sl - (z - s + 3600 * j) ≤ num / den := by
  unfold c1B
  rw [Bool.and_eq_true, decide_eq_true_eq, decide_eq_true_eq]
  obtain ⟨t, ht⟩ : ∃ t, z - s + 3600 * j = t := ⟨_, rfl⟩
  rw [ht]
  have e1 : (-sl - t ≤ num / den) ↔ (-sl - t) * den ≤ num := Int.le_ediv_iff_mul_le (by omega)
  have e2 : ((num + den - 1) / den ≤ sl - t) ↔ num ≤ (sl - t) * den := by
    rw [← Int.lt_add_one_iff, Int.ediv_lt_iff_lt_mul (by omega), Int.add_mul]
    omega
  rw [e1, e2, Int.sub_mul, Int.sub_mul]
  constructor
  · rintro ⟨h1, h2⟩; constructor <;> omega
  · rintro ⟨h1, h2⟩; constructor <;> omega
/-- The zeros that a check allows are those of a span. -/
theorem cn_al {zx zy z : Int} {k : Ck} (hb : brB zx zy k.x k.y = true) (hs : 0 ≤ k.s ∧ k.s ≤ 3599) (hsl : 1 ≤ k.sl ∧ k.sl ≤ 100) (hz : -300 ≤ z ∧ z ≤ 300) :
    cnB k.s k.sl (twN (k.x - zx) (k.y - zy)) (twD (k.x - zx) (k.y - zy)) z = decide (alL zx zy k ≤ z ∧ z ≤ alH zx zy k) := by
  obtain ⟨n1, n2, n3⟩ := br_nx hb
  obtain ⟨h1, h2, h3⟩ := brB_ok hb
  obtain ⟨t1, _⟩ := tw_ok (x := k.x - zx) (y := k.y - zy) (by omega) (by omega) h3
  rw [Bool.eq_iff_iff, decide_eq_true_eq, cn_iff]
  unfold alL alH alM
  have eD : brDn zx zy k.x k.y = twN (k.x - zx) (k.y - zy) / twD (k.x - zx) (k.y - zy) := by unfold brDn; rw [if_pos hb]
  have eU : brUp zx zy k.x k.y = (twN (k.x - zx) (k.y - zy) + twD (k.x - zx) (k.y - zy) - 1) / twD (k.x - zx) (k.y - zy) := by unfold brUp; rw [if_pos hb]
  have key : ∀ j, c1B k.s k.sl (twN (k.x - zx) (k.y - zy)) (twD (k.x - zx) (k.y - zy)) z j = true ↔ brUp zx zy k.x k.y ≤ k.sl - (z - k.s + 3600 * j) ∧ -k.sl - (z - k.s + 3600 * j) ≤ brDn zx zy k.x k.y := fun j => by
    rw [eD, eU]; exact c1_iff t1
  simp only [key]
  clear key eD eU t1 h1 h2 h3 hb
  generalize brDn zx zy k.x k.y = D at *
  generalize brUp zx zy k.x k.y = U at *
  generalize k.s = s at *
  generalize k.sl = sl at *
  obtain ⟨q, hq⟩ : ∃ q, (s - sl - D + 1800) / 3600 = q := ⟨_, rfl⟩
  have hm : (s - sl - D + 1800) % 3600 = s - sl - D + 1800 - 3600 * q := by omega
  rw [hm]
  have hq2 : -1 ≤ q ∧ q ≤ 1 := by omega
  have hq3 : 0 ≤ s - sl - D + 1800 - 3600 * q ∧ s - sl - D + 1800 - 3600 * q < 3600 := by omega
  clear hm hq
  constructor
  · rintro ⟨j, hj, h1, h2⟩
    obtain rfl : j = q := by omega
    omega
  · rintro ⟨h1, h2⟩
    exact ⟨q, by omega, by omega, by omega⟩
set_option maxRecDepth 100000 in
set_option maxHeartbeats 8000000 in
theorem pCan_any (s sl num den z : Int) (w : World) (hs : 0 ≤ s ∧ s ≤ 3599) (hsl : 1 ≤ sl ∧ sl ≤ 100) (hd : 1 ≤ den ∧ den ≤ 48) (hn : 0 ≤ num ∧ num ≤ 3600 * 48) (hz : -300 ≤ z ∧ z ≤ 300) :
    Calls Tryz.prog 151 #[.int .i64 s, .int .i64 sl, .agg #[.int .i64 num, .int .i64 den], .int .i64 z] w fun e w' => e = .returned (.bool (cnB s sl num den z)) ∧ Below w.heap.size w w' := by
  have HNT := Lib.hid (fun j hj h => cn_true (s := s) (sl := sl) (num := num) (den := den) (z := z) (j := j) hj h)
  have HNF := Lib.hid (fun h => cn_false (s := s) (sl := sl) (num := num) (den := den) (z := z) h)
  have HC1 : Hid (∀ j, c1B s sl num den z j = (decide (-sl * den ≤ num + (z - s + 3600 * j) * den) && decide (num + (z - s + 3600 * j) * den ≤ sl * den))) := Lib.hid (fun j => rfl)
  obtain ⟨C, hC⟩ : ∃ C, cnB s sl num den z = C := ⟨_, rfl⟩
  obtain ⟨c1, hc1⟩ : ∃ c : Int → Bool, c1B s sl num den z = c := ⟨_, rfl⟩
  rw [hC, hc1] at HNT
  rw [hC, hc1] at HNF
  rw [hc1] at HC1
  rw [hC]
  have HLIM := Lib.hid (And.intro hs (And.intro hsl (And.intro hd (And.intro hn hz))))
  have e1 : IntKind.i64.wrap (-sl) = -sl := IntWalk.i64_in _ (by omega)
  have q1 := mul_48 (a := sl) (b := den) (A := 100) (by omega) hd
  obtain ⟨S, hS⟩ : ∃ S, sl * den = S := ⟨_, rfl⟩
  obtain ⟨S2, hS2⟩ : ∃ S, -sl * den = S := ⟨_, rfl⟩
  have e2 : IntKind.i64.wrap (-sl * den) = S2 := by rw [← hS2]; exact IntWalk.i64_in _ (by rw [Int.neg_mul]; omega)
  have e3 : IntKind.i64.wrap (sl * den) = S := by rw [← hS]; exact IntWalk.i64_in _ (by omega)
  replace HC1 : Hid (∀ j, c1 j = (decide (S2 ≤ num + (z - s + 3600 * j) * den) && decide (num + (z - s + 3600 * j) * den ≤ S))) := Lib.hid (fun j => by rw [← hS, ← hS2]; exact HC1.out j)
  have e4 : IntKind.i64.wrap (z - s) = z - s := IntWalk.i64_in _ (by omega)
  clear hC hc1 hs hsl hd hn hz q1 hS hS2
  obtain ⟨x0, xlt, xb⟩ := cells1 w #[.int .i64 num, .int .i64 den] 212 (Below.refl _ _)
  have HNb : Hid ((w.alloc (.cells #[.int .i64 num, .int .i64 den] 212)).heap[w.heap.size]? = some (.cells #[.int .i64 num, .int .i64 den] 212 (0, 0))) := Lib.hid x0
  have HB : Hid (Below w.heap.size w (w.alloc (.cells #[.int .i64 num, .int .i64 den] 212))) := Lib.hid xb
  obtain ⟨Z, hZ⟩ : ∃ Z, (w.alloc (.cells #[.int .i64 num, .int .i64 den] 212)) = Z := ⟨_, rfl⟩
  rw [hZ] at HB HNb
  have HZ := Lib.hid hZ
  clear hZ xlt xb x0
  go_enter Tryz.func151, Tryz.ntmps151
  go_wp2_with fail
  rw [HZ.out]
  go_loopw [9] (fun x wr => ∃ (j : Int), (-2 ≤ j ∧ j ≤ 3) ∧ x = .int .i64 j ∧ Hid (∀ i, -2 ≤ i → i < j → c1 i = false) ∧ Hid (Below w.heap.size w wr) ∧ Hid (wr.heap[w.heap.size]? = some (.cells #[.int .i64 num, .int .i64 den] 212 (0, 0)))) (fun x _ => (3 - intOf x).toNat)
  case atStart => exact ⟨-2, by omega, rfl, Lib.hid (fun i h1 h2 => by omega), HB, HNb⟩
  case round =>
    clear HB HNb
    obtain ⟨j, hj, rfl, hN, HB, HNb⟩ := hrel
    have zb0 := cellH HNb.out 0
    have zb1 := cellH HNb.out 1
    simp only [List.getElem?_toArray, List.getElem?_cons_zero, List.getElem?_cons_succ] at zb0 zb1
    by_cases hj2 : j ≤ 2
    · have hl := HLIM.out
      obtain ⟨T, hT⟩ : ∃ T, z - s + 3600 * j = T := ⟨_, rfl⟩
      have m1 : (-11099) * den ≤ T * den := Int.mul_le_mul_of_nonneg_right (by omega) (by omega)
      have m2 : T * den ≤ 11099 * den := Int.mul_le_mul_of_nonneg_right (by omega) (by omega)
      have e5 : IntKind.i64.wrap (3600 * j) = 3600 * j := IntWalk.i64_in _ (by omega)
      have e6 : IntKind.i64.wrap (z - s + 3600 * j) = T := by rw [hT]; exact IntWalk.i64_in _ (by omega)
      have e7 : IntKind.i64.wrap (T * den) = T * den := IntWalk.i64_in _ (by omega)
      obtain ⟨P, hP⟩ : ∃ P, num + T * den = P := ⟨_, rfl⟩
      have e8 : IntKind.i64.wrap (num + T * den) = P := by rw [← hP]; exact IntWalk.i64_in _ (by omega)
      have e9 : IntKind.i64.wrap (j + 1) = j + 1 := IntWalk.i64_in _ (by omega)
      have HJ2 := Lib.hid (And.intro hj hj2)
      have HC2 : Hid (c1 j = (decide (S2 ≤ P) && decide (P ≤ S))) := Lib.hid (by rw [HC1.out j, hT, hP])
      have HNX : Hid (c1 j = false → ∀ i, -2 ≤ i → i < j + 1 → c1 i = false) := Lib.hid (fun h i h1 h2 => by
        by_cases e : i = j
        · rw [e]; exact h
        · exact hN.out i h1 (by omega))
      clear hl hT m1 m2 hj hP
      cases g1 : decide (S2 ≤ P)
      · have h1 : ¬ S2 ≤ P := of_decide_eq_false g1
        have HN2 := Lib.hid (HNX.out (by rw [HC2.out, g1]; rfl))
        go_wp2_with fail
        go_roundw
        case rel => exact ⟨j + 1, by have := HJ2.out; omega, rfl, HN2, HB, HNb⟩
        case measure => have := HJ2.out; simp [intOf]; omega
      have h1 : S2 ≤ P := of_decide_eq_true g1
      cases g2 : decide (P ≤ S)
      · have h2 : ¬ P ≤ S := of_decide_eq_false g2
        have HN2 := Lib.hid (HNX.out (by rw [HC2.out, g1, g2]; rfl))
        go_wp2_with fail
        go_roundw
        case rel => exact ⟨j + 1, by have := HJ2.out; omega, rfl, HN2, HB, HNb⟩
        case measure => have := HJ2.out; simp [intOf]; omega
      have h2 : P ≤ S := of_decide_eq_true g2
      have HN2 : Hid (C = true) := Lib.hid (HNT.out j (by have := HJ2.out; omega) (by rw [HC2.out, g1, g2]; rfl))
      go_wp2_with fail
      go_ret
      exact ⟨by rw [HN2.out]; rfl, HB.out⟩
    · obtain rfl : j = 3 := by omega
      have HN2 : Hid (C = false) := Lib.hid (HNF.out hN.out)
      go_wp2_with fail
      go_ret
      exact ⟨by rw [HN2.out]; rfl, HB.out⟩
/-- What a check's zeros are so far. -/
def oL (L H n : Int) : Int := if L < n ∧ L ≤ H then L else 0
def oH (L H n : Int) : Int := if L < n ∧ L ≤ H then min (n - 1) H else 0
def oN (L H n : Int) : Bool := !decide (L < n ∧ L ≤ H)
theorem o_step {L H n : Int} : (decide (L ≤ n ∧ n ≤ H) = true → oN L H (n + 1) = false ∧ oH L H (n + 1) = n ∧ (oN L H n = true → oL L H (n + 1) = n) ∧ (oN L H n = false → oL L H (n + 1) = oL L H n)) ∧
    (decide (L ≤ n ∧ n ≤ H) = false → oN L H (n + 1) = oN L H n ∧ oH L H (n + 1) = oH L H n ∧ oL L H (n + 1) = oL L H n) := by
  unfold oL oH oN
  refine ⟨fun h => ?_, fun h => ?_⟩
  · have h := of_decide_eq_true h
    have p : L < n + 1 ∧ L ≤ H := by omega
    rw [decide_eq_true p, if_pos p, if_pos p]
    refine ⟨rfl, by omega, fun h2 => ?_, fun h2 => ?_⟩
    · rw [Bool.not_eq_true', decide_eq_false_iff_not] at h2; omega
    · rw [Bool.not_eq_false', decide_eq_true_eq] at h2; rw [if_pos h2]
  · have h := of_decide_eq_false h
    by_cases p : L < n ∧ L ≤ H
    · have p2 : L < n + 1 ∧ L ≤ H := by omega
      rw [decide_eq_true p, decide_eq_true p2, if_pos p, if_pos p, if_pos p2, if_pos p2]
      exact ⟨rfl, by omega, rfl⟩
    · have p2 : ¬ (L < n + 1 ∧ L ≤ H) := by omega
      rw [decide_eq_false p, decide_eq_false p2, if_neg p, if_neg p, if_neg p2, if_neg p2]
      exact ⟨rfl, rfl, rfl⟩
theorem o_last {zx zy : Int} {k : Ck} : oN (alL zx zy k) (alH zx zy k) 301 = !(alB zx zy k) ∧ oL (alL zx zy k) (alH zx zy k) 301 = (if alB zx zy k = true then alL zx zy k else 0) ∧ oH (alL zx zy k) (alH zx zy k) 301 = (if alB zx zy k = true then alH zx zy k else 0) := by
  have h : alH zx zy k ≤ 300 := by unfold alH; omega
  unfold oN oL oH alB
  by_cases p : alL zx zy k ≤ alH zx zy k
  · have p2 : alL zx zy k < 301 ∧ alL zx zy k ≤ alH zx zy k := by omega
    rw [decide_eq_true p, decide_eq_true p2, if_pos p2, if_pos p2, if_pos rfl, if_pos rfl]
    exact ⟨rfl, rfl, by omega⟩
  · have p2 : ¬ (alL zx zy k < 301 ∧ alL zx zy k ≤ alH zx zy k) := by omega
    rw [decide_eq_false p, decide_eq_false p2, if_neg p2, if_neg p2, if_neg (by simp), if_neg (by simp)]
    exact ⟨rfl, rfl, rfl⟩
theorem o_zero {zx zy : Int} {k : Ck} : oN (alL zx zy k) (alH zx zy k) (-300) = true ∧ oL (alL zx zy k) (alH zx zy k) (-300) = 0 ∧ oH (alL zx zy k) (alH zx zy k) (-300) = 0 := by
  have h : ¬ (alL zx zy k < -300 ∧ alL zx zy k ≤ alH zx zy k) := by unfold alL; omega
  unfold oN oL oH
  rw [decide_eq_false h, if_neg h, if_neg h]
  exact ⟨rfl, rfl, rfl⟩
theorem info_lm3 : (Tryz.prog.info? 179).map (·.size) = some 3 := by kernel_rfl
set_option maxRecDepth 100000 in
set_option maxHeartbeats 8000000 in
theorem palone_any (v v2 : Value) (l : List Ci) (k : Ck) (z : Ci) (w : World) (hv : CiRow w v l) (hl : l.length ≤ 1000000) (hz : ciF l k.c = some z) (hb : brB z.x z.y k.x k.y = true) (hs : 0 ≤ k.s ∧ k.s ≤ 3599) (hsl : 1 ≤ k.sl ∧ k.sl ≤ 100) :
    Calls Tryz.prog 111 #[.agg #[v, v2], k.val] w fun e w' => e = .returned (.agg #[.int .i64 (if alB z.x z.y k = true then alL z.x z.y k else 0), .int .i64 (if alB z.x z.y k = true then alH z.x z.y k else 0), .bool (!alB z.x z.y k)]) ∧ Below w.heap.size w w' := by
  have HCAN := Lib.hid (fun n hn => cn_al (zx := z.x) (zy := z.y) (z := n) (k := k) hb hs hsl hn)
  have HLA := Lib.hid (o_last (zx := z.x) (zy := z.y) (k := k))
  have HZE := Lib.hid (o_zero (zx := z.x) (zy := z.y) (k := k))
  have HST := Lib.hid (fun n => o_step (L := alL z.x z.y k) (H := alH z.x z.y k) (n := n))
  obtain ⟨h1, h2, h3⟩ := brB_ok hb
  obtain ⟨t1, t2, t3, t4, _⟩ := tw_ok (x := k.x - z.x) (y := k.y - z.y) (by omega) (by omega) h3
  have HF : Hid (∀ w', Below w.heap.size w w' → Calls Tryz.prog 65 #[.agg #[v, v2], .int .i64 k.c] w' fun e w'' => e = .returned (.tuple #[z.val, .bool true]) ∧ Below w'.heap.size w' w'') := Lib.hid (fun w' h => by
    have h2 := pfind_any v v2 l k.c w' (hv.keep h) hl
    rw [hz] at h2; exact h2)
  have HBR : Hid (∀ w', Calls Tryz.prog 150 #[.agg #[.int .i64 z.x, .int .i64 z.y], .agg #[.int .i64 k.x, .int .i64 k.y]] w' fun e w'' => e = .returned (.tuple #[.agg #[.int .i64 (twN (k.x - z.x) (k.y - z.y)), .int .i64 (twD (k.x - z.x) (k.y - z.y))], .bool true]) ∧ Below w'.heap.size w' w'') := Lib.hid (fun w' => by
    have h2 := pbearing_any z.x z.y k.x k.y w'
    rw [hb] at h2; exact h2)
  have HPC := Lib.hid (fun n hn w' => pCan_any k.s k.sl (twN (k.x - z.x) (k.y - z.y)) (twD (k.x - z.x) (k.y - z.y)) n w' hs hsl ⟨t1, t2⟩ ⟨t3, by omega⟩ hn)
  obtain ⟨a, cap, rfl, _⟩ := hv.form
  obtain ⟨NU, hNU⟩ : ∃ q, twN (k.x - z.x) (k.y - z.y) = q := ⟨_, rfl⟩
  obtain ⟨DE, hDE⟩ : ∃ q, twD (k.x - z.x) (k.y - z.y) = q := ⟨_, rfl⟩
  rw [hNU, hDE] at HCAN HBR HPC
  obtain ⟨L, hL⟩ : ∃ q, alL z.x z.y k = q := ⟨_, rfl⟩
  obtain ⟨HH, hHH⟩ : ∃ q, alH z.x z.y k = q := ⟨_, rfl⟩
  obtain ⟨AB, hAB⟩ : ∃ q, alB z.x z.y k = q := ⟨_, rfl⟩
  rw [hL, hHH, hAB] at HLA
  rw [hL, hHH] at HZE HST HCAN
  rw [hL, hHH, hAB]
  obtain ⟨RL, hRL⟩ : ∃ q, (if AB = true then L else 0) = q := ⟨_, rfl⟩
  obtain ⟨RH, hRH⟩ : ∃ q, (if AB = true then HH else 0) = q := ⟨_, rfl⟩
  rw [hRL, hRH] at HLA ⊢
  clear hv hl hz hb hs hsl h1 h2 h3 t1 t2 t3 t4 hNU hDE hL hHH hAB hRL hRH
  obtain ⟨id, c, t, x, y, s, sl⟩ := k
  obtain ⟨z0, z1, z2, z3, z4, z5, z6, z7⟩ := z
  obtain ⟨x0, x1, x2, xlt, xb⟩ := cells3 w #[.slice a l.length cap, v2] #[.int .i64 id, .int .i64 c, .int .i64 t, .int .i64 x, .int .i64 y, .int .i64 s, .int .i64 sl] #[.int .i64 0, .int .i64 0, .bool false] 25 67 179 (Below.refl _ _)
  have HNc : Hid ((((w.alloc (.cells #[.slice a l.length cap, v2] 25)).alloc (.cells #[.int .i64 id, .int .i64 c, .int .i64 t, .int .i64 x, .int .i64 y, .int .i64 s, .int .i64 sl] 67)).alloc (.cells #[.int .i64 0, .int .i64 0, .bool false] 179)).heap[w.heap.size]? = some (.cells #[.slice a l.length cap, v2] 25 (0, 0))) := Lib.hid x0
  have HNk : Hid ((((w.alloc (.cells #[.slice a l.length cap, v2] 25)).alloc (.cells #[.int .i64 id, .int .i64 c, .int .i64 t, .int .i64 x, .int .i64 y, .int .i64 s, .int .i64 sl] 67)).alloc (.cells #[.int .i64 0, .int .i64 0, .bool false] 179)).heap[w.heap.size + 1]? = some (.cells #[.int .i64 id, .int .i64 c, .int .i64 t, .int .i64 x, .int .i64 y, .int .i64 s, .int .i64 sl] 67 (0, 0))) := Lib.hid x1
  have HNr : Hid ((((w.alloc (.cells #[.slice a l.length cap, v2] 25)).alloc (.cells #[.int .i64 id, .int .i64 c, .int .i64 t, .int .i64 x, .int .i64 y, .int .i64 s, .int .i64 sl] 67)).alloc (.cells #[.int .i64 0, .int .i64 0, .bool false] 179)).heap[w.heap.size + 1 + 1]? = some (.cells #[.int .i64 0, .int .i64 0, .bool false] 179 (0, 0))) := Lib.hid x2
  have HB : Hid (Below w.heap.size w (((w.alloc (.cells #[.slice a l.length cap, v2] 25)).alloc (.cells #[.int .i64 id, .int .i64 c, .int .i64 t, .int .i64 x, .int .i64 y, .int .i64 s, .int .i64 sl] 67)).alloc (.cells #[.int .i64 0, .int .i64 0, .bool false] 179))) := Lib.hid xb
  obtain ⟨Z, hZ⟩ : ∃ Z, (((w.alloc (.cells #[.slice a l.length cap, v2] 25)).alloc (.cells #[.int .i64 id, .int .i64 c, .int .i64 t, .int .i64 x, .int .i64 y, .int .i64 s, .int .i64 sl] 67)).alloc (.cells #[.int .i64 0, .int .i64 0, .bool false] 179)) = Z := ⟨_, rfl⟩
  rw [hZ] at HB HNc HNk HNr
  have HZ := Lib.hid hZ
  clear hZ xlt xb x0 x1 x2
  go_enter Tryz.func111, Tryz.ntmps111
  go_wp2_with fail
  rw [HZ.out]
  refine (HF.out _ HB.out).mono ?_
  rintro e w1 ⟨rfl, hb⟩
  replace HB := Lib.hid (HB.out.trans (hb.mono HB.out.size))
  replace HNc := Lib.hid ((hb.block _ (Array.getElem?_eq_some_iff.1 HNc.out).1).trans HNc.out)
  replace HNk := Lib.hid ((hb.block _ (Array.getElem?_eq_some_iff.1 HNk.out).1).trans HNk.out)
  replace HNr := Lib.hid ((hb.block _ (Array.getElem?_eq_some_iff.1 HNr.out).1).trans HNr.out)
  clear hb
  have hAlc : Below w1.heap.size w1 (w1.alloc (.cells #[.int .i64 z0, .int .i64 z1, .int .i64 z2, .int .i64 z3, .int .i64 z4, .int .i64 z5, .int .i64 z6, .int .i64 z7] 93)) := (Below.refl _ w1).alloc (Nat.le_refl _) _
  have HSx : Hid (w.heap.size ≤ w1.heap.size) := Lib.hid HB.out.size
  have HNx : Hid ((w1.alloc (.cells #[.int .i64 z0, .int .i64 z1, .int .i64 z2, .int .i64 z3, .int .i64 z4, .int .i64 z5, .int .i64 z6, .int .i64 z7] 93)).heap[w1.heap.size]? = some (.cells #[.int .i64 z0, .int .i64 z1, .int .i64 z2, .int .i64 z3, .int .i64 z4, .int .i64 z5, .int .i64 z6, .int .i64 z7] 93 (0, 0))) := Lib.hid (heap_alloc_new _ _)
  replace HB := Lib.hid (HB.out.trans (hAlc.mono HB.out.size))
  have HXc_x : Hid (w.heap.size ≠ w1.heap.size) := Lib.hid (Nat.ne_of_lt (Array.getElem?_eq_some_iff.1 HNc.out).1)
  have HXk_x : Hid (w.heap.size + 1 ≠ w1.heap.size) := Lib.hid (Nat.ne_of_lt (Array.getElem?_eq_some_iff.1 HNk.out).1)
  have HXr_x : Hid (w.heap.size + 1 + 1 ≠ w1.heap.size) := Lib.hid (Nat.ne_of_lt (Array.getElem?_eq_some_iff.1 HNr.out).1)
  replace HNc := Lib.hid ((hAlc.block _ (Array.getElem?_eq_some_iff.1 HNc.out).1).trans HNc.out)
  replace HNk := Lib.hid ((hAlc.block _ (Array.getElem?_eq_some_iff.1 HNk.out).1).trans HNk.out)
  replace HNr := Lib.hid ((hAlc.block _ (Array.getElem?_eq_some_iff.1 HNr.out).1).trans HNr.out)
  obtain ⟨ax, hax⟩ : ∃ qq, w1.alloc (.cells #[.int .i64 z0, .int .i64 z1, .int .i64 z2, .int .i64 z3, .int .i64 z4, .int .i64 z5, .int .i64 z6, .int .i64 z7] 93) = qq := ⟨_, rfl⟩
  obtain ⟨bkx, hbx⟩ : ∃ qq, w1.heap.size = qq := ⟨_, rfl⟩
  rw [hax] at HB HNx HNc HNk HNr
  rw [hbx] at HNx HSx HXc_x HXk_x HXr_x
  clear hAlc
  have zk0 := cellH HNk.out 0
  have zk1 := cellH HNk.out 1
  have zk2 := cellH HNk.out 2
  have zk3 := cellH HNk.out 3
  have zk4 := cellH HNk.out 4
  have zk5 := cellH HNk.out 5
  have zk6 := cellH HNk.out 6
  have zx0 := cellH HNx.out 0
  have zx1 := cellH HNx.out 1
  have zx2 := cellH HNx.out 2
  have zx3 := cellH HNx.out 3
  have zx4 := cellH HNx.out 4
  have zx5 := cellH HNx.out 5
  have zx6 := cellH HNx.out 6
  have zx7 := cellH HNx.out 7
  simp only [List.getElem?_toArray, List.getElem?_cons_zero, List.getElem?_cons_succ] at zk0 zk1 zk2 zk3 zk4 zk5 zk6 zx0 zx1 zx2 zx3 zx4 zx5 zx6 zx7
  go_wp2_with fail
  try clear hax hbx
  refine (HBR.out _).mono ?_
  rintro e w2 ⟨rfl, hb⟩
  clear zk0 zk1 zk2 zk3 zk4 zk5 zk6 zx0 zx1 zx2 zx3 zx4 zx5 zx6 zx7
  replace HB := Lib.hid (HB.out.trans (hb.mono HB.out.size))
  replace HNc := Lib.hid ((hb.block _ (Array.getElem?_eq_some_iff.1 HNc.out).1).trans HNc.out)
  replace HNk := Lib.hid ((hb.block _ (Array.getElem?_eq_some_iff.1 HNk.out).1).trans HNk.out)
  replace HNr := Lib.hid ((hb.block _ (Array.getElem?_eq_some_iff.1 HNr.out).1).trans HNr.out)
  replace HNx := Lib.hid ((hb.block _ (Array.getElem?_eq_some_iff.1 HNx.out).1).trans HNx.out)
  clear hb
  have hAlc : Below w2.heap.size w2 (w2.alloc (.cells #[.int .i64 NU, .int .i64 DE] 212)) := (Below.refl _ w2).alloc (Nat.le_refl _) _
  have HSb : Hid (w.heap.size ≤ w2.heap.size) := Lib.hid HB.out.size
  have HNb : Hid ((w2.alloc (.cells #[.int .i64 NU, .int .i64 DE] 212)).heap[w2.heap.size]? = some (.cells #[.int .i64 NU, .int .i64 DE] 212 (0, 0))) := Lib.hid (heap_alloc_new _ _)
  replace HB := Lib.hid (HB.out.trans (hAlc.mono HB.out.size))
  have HXc_b : Hid (w.heap.size ≠ w2.heap.size) := Lib.hid (Nat.ne_of_lt (Array.getElem?_eq_some_iff.1 HNc.out).1)
  have HXk_b : Hid (w.heap.size + 1 ≠ w2.heap.size) := Lib.hid (Nat.ne_of_lt (Array.getElem?_eq_some_iff.1 HNk.out).1)
  have HXr_b : Hid (w.heap.size + 1 + 1 ≠ w2.heap.size) := Lib.hid (Nat.ne_of_lt (Array.getElem?_eq_some_iff.1 HNr.out).1)
  have HXx_b : Hid (bkx ≠ w2.heap.size) := Lib.hid (Nat.ne_of_lt (Array.getElem?_eq_some_iff.1 HNx.out).1)
  replace HNc := Lib.hid ((hAlc.block _ (Array.getElem?_eq_some_iff.1 HNc.out).1).trans HNc.out)
  replace HNk := Lib.hid ((hAlc.block _ (Array.getElem?_eq_some_iff.1 HNk.out).1).trans HNk.out)
  replace HNr := Lib.hid ((hAlc.block _ (Array.getElem?_eq_some_iff.1 HNr.out).1).trans HNr.out)
  replace HNx := Lib.hid ((hAlc.block _ (Array.getElem?_eq_some_iff.1 HNx.out).1).trans HNx.out)
  obtain ⟨ab, hab⟩ : ∃ qq, w2.alloc (.cells #[.int .i64 NU, .int .i64 DE] 212) = qq := ⟨_, rfl⟩
  obtain ⟨bkb, hbb⟩ : ∃ qq, w2.heap.size = qq := ⟨_, rfl⟩
  rw [hab] at HB HNb HNc HNk HNr HNx
  rw [hbb] at HNb HSb HXc_b HXk_b HXr_b HXx_b
  clear hAlc
  have hAlc : Below ab.heap.size ab (ab.alloc (.cells #[.int .i64 0, .int .i64 0, .bool true] 179)) := (Below.refl _ ab).alloc (Nat.le_refl _) _
  have HSo : Hid (w.heap.size ≤ ab.heap.size) := Lib.hid HB.out.size
  have HNo : Hid ((ab.alloc (.cells #[.int .i64 0, .int .i64 0, .bool true] 179)).heap[ab.heap.size]? = some (.cells #[.int .i64 0, .int .i64 0, .bool true] 179 (0, 0))) := Lib.hid (heap_alloc_new _ _)
  replace HB := Lib.hid (HB.out.trans (hAlc.mono HB.out.size))
  have HXc_o : Hid (w.heap.size ≠ ab.heap.size) := Lib.hid (Nat.ne_of_lt (Array.getElem?_eq_some_iff.1 HNc.out).1)
  have HXk_o : Hid (w.heap.size + 1 ≠ ab.heap.size) := Lib.hid (Nat.ne_of_lt (Array.getElem?_eq_some_iff.1 HNk.out).1)
  have HXr_o : Hid (w.heap.size + 1 + 1 ≠ ab.heap.size) := Lib.hid (Nat.ne_of_lt (Array.getElem?_eq_some_iff.1 HNr.out).1)
  have HXx_o : Hid (bkx ≠ ab.heap.size) := Lib.hid (Nat.ne_of_lt (Array.getElem?_eq_some_iff.1 HNx.out).1)
  have HXb_o : Hid (bkb ≠ ab.heap.size) := Lib.hid (Nat.ne_of_lt (Array.getElem?_eq_some_iff.1 HNb.out).1)
  replace HNc := Lib.hid ((hAlc.block _ (Array.getElem?_eq_some_iff.1 HNc.out).1).trans HNc.out)
  replace HNk := Lib.hid ((hAlc.block _ (Array.getElem?_eq_some_iff.1 HNk.out).1).trans HNk.out)
  replace HNr := Lib.hid ((hAlc.block _ (Array.getElem?_eq_some_iff.1 HNr.out).1).trans HNr.out)
  replace HNx := Lib.hid ((hAlc.block _ (Array.getElem?_eq_some_iff.1 HNx.out).1).trans HNx.out)
  replace HNb := Lib.hid ((hAlc.block _ (Array.getElem?_eq_some_iff.1 HNb.out).1).trans HNb.out)
  obtain ⟨ao, hao⟩ : ∃ qq, ab.alloc (.cells #[.int .i64 0, .int .i64 0, .bool true] 179) = qq := ⟨_, rfl⟩
  obtain ⟨bko, hbo⟩ : ∃ qq, ab.heap.size = qq := ⟨_, rfl⟩
  rw [hao] at HB HNo HNc HNk HNr HNx HNb
  rw [hbo] at HNo HSo HXc_o HXk_o HXr_o HXx_o HXb_o
  clear hAlc
  go_wp2_with fail
  try clear hab hbb hao hbo
  go_loopw [10] (fun xx wr => ∃ (n lo hi : Int) (no : Bool), (-300 ≤ n ∧ n ≤ 301) ∧ xx = .int .i64 n ∧ Hid (lo = oL L HH n ∧ hi = oH L HH n ∧ no = oN L HH n) ∧ Hid (Below w.heap.size w wr) ∧ Hid (wr.heap[w.heap.size]? = some (.cells #[.slice a l.length cap, v2] 25 (0, 0))) ∧ Hid (wr.heap[w.heap.size + 1]? = some (.cells #[.int .i64 id, .int .i64 c, .int .i64 t, .int .i64 x, .int .i64 y, .int .i64 s, .int .i64 sl] 67 (0, 0))) ∧ Hid (wr.heap[w.heap.size + 1 + 1]? = some (.cells #[.int .i64 0, .int .i64 0, .bool false] 179 (0, 0))) ∧ Hid (wr.heap[bkx]? = some (.cells #[.int .i64 z0, .int .i64 z1, .int .i64 z2, .int .i64 z3, .int .i64 z4, .int .i64 z5, .int .i64 z6, .int .i64 z7] 93 (0, 0))) ∧ Hid (wr.heap[bkb]? = some (.cells #[.int .i64 NU, .int .i64 DE] 212 (0, 0))) ∧ Hid (wr.heap[bko]? = some (.cells #[.int .i64 lo, .int .i64 hi, .bool no] 179 (0, 0)))) (fun xx _ => (301 - intOf xx).toNat)
  case atStart => exact ⟨-300, 0, 0, true, by omega, rfl, Lib.hid ⟨HZE.out.2.1.symm, HZE.out.2.2.symm, HZE.out.1.symm⟩, HB, HNc, HNk, HNr, HNx, HNb, HNo⟩
  case round =>
    clear HB HNc HNk HNr HNx HNb HNo
    obtain ⟨n, lo, hi, no, hn, rfl, hO, HB, HNc, HNk, HNr, HNx, HNb, HNo⟩ := hrel
    by_cases hn2 : n ≤ 300
    · have HN3 := Lib.hid (show -300 ≤ n ∧ n ≤ 300 from ⟨hn.1, hn2⟩)
      have HPC2 := Lib.hid (fun w' => HPC.out n HN3.out w')
      rw [HCAN.out n HN3.out] at HPC2
      have HST2 := Lib.hid (HST.out n)
      obtain ⟨C, hC⟩ : ∃ C, decide (L ≤ n ∧ n ≤ HH) = C := ⟨_, rfl⟩
      rw [hC] at HPC2 HST2
      have e9 : IntKind.i64.wrap (n + 1) = n + 1 := IntWalk.i64_in _ (by omega)
      clear hC
      have zk0 := cellH HNk.out 0
      have zk1 := cellH HNk.out 1
      have zk2 := cellH HNk.out 2
      have zk3 := cellH HNk.out 3
      have zk4 := cellH HNk.out 4
      have zk5 := cellH HNk.out 5
      have zk6 := cellH HNk.out 6
      have zb0 := cellH HNb.out 0
      have zb1 := cellH HNb.out 1
      simp only [List.getElem?_toArray, List.getElem?_cons_zero, List.getElem?_cons_succ] at zk0 zk1 zk2 zk3 zk4 zk5 zk6 zb0 zb1
      go_wp2_with fail
      refine (HPC2.out _).mono ?_
      rintro e w3 ⟨rfl, hb⟩
      clear zk0 zk1 zk2 zk3 zk4 zk5 zk6 zb0 zb1
      replace HB := Lib.hid (HB.out.trans (hb.mono HB.out.size))
      replace HNc := Lib.hid ((hb.block _ (Array.getElem?_eq_some_iff.1 HNc.out).1).trans HNc.out)
      replace HNk := Lib.hid ((hb.block _ (Array.getElem?_eq_some_iff.1 HNk.out).1).trans HNk.out)
      replace HNr := Lib.hid ((hb.block _ (Array.getElem?_eq_some_iff.1 HNr.out).1).trans HNr.out)
      replace HNx := Lib.hid ((hb.block _ (Array.getElem?_eq_some_iff.1 HNx.out).1).trans HNx.out)
      replace HNb := Lib.hid ((hb.block _ (Array.getElem?_eq_some_iff.1 HNb.out).1).trans HNb.out)
      replace HNo := Lib.hid ((hb.block _ (Array.getElem?_eq_some_iff.1 HNo.out).1).trans HNo.out)
      clear hb
      cases C
      · have HN4 := Lib.hid (HST2.out.2 rfl)
        go_wp2_with fail
        go_roundw
        case rel => exact ⟨n + 1, lo, hi, no, by have := HN3.out; omega, rfl, Lib.hid ⟨hO.out.1.trans HN4.out.2.2.symm, hO.out.2.1.trans HN4.out.2.1.symm, hO.out.2.2.trans HN4.out.1.symm⟩, HB, HNc, HNk, HNr, HNx, HNb, HNo⟩
        case measure => have := HN3.out; simp [intOf]; omega
      obtain ⟨s1, s2, s3, s4⟩ := HST2.out.1 rfl
      have HS1 := Lib.hid (And.intro s1 s2)
      have HS3 := Lib.hid s3
      have HS4 := Lib.hid s4
      clear s1 s2 s3 s4
      cases no
      · have HN4 := Lib.hid (HS4.out hO.out.2.2.symm)
        have zo0 := cellH HNo.out 0
        have zo1 := cellH HNo.out 1
        have zo2 := cellH HNo.out 2
        simp only [List.getElem?_toArray, List.getElem?_cons_zero, List.getElem?_cons_succ] at zo0 zo1 zo2
        have zfo := freeH HNo.out
        replace HNc := Lib.hid ((heap_other w3 (bko) 1 (.int .i64 n) _ HXc_o.out).trans HNc.out)
        replace HNk := Lib.hid ((heap_other w3 (bko) 1 (.int .i64 n) _ HXk_o.out).trans HNk.out)
        replace HNr := Lib.hid ((heap_other w3 (bko) 1 (.int .i64 n) _ HXr_o.out).trans HNr.out)
        replace HNx := Lib.hid ((heap_other w3 (bko) 1 (.int .i64 n) _ HXx_o.out).trans HNx.out)
        replace HNb := Lib.hid ((heap_other w3 (bko) 1 (.int .i64 n) _ HXb_o.out).trans HNb.out)
        replace HNo := Lib.hid (heap_same HNo.out 1 (.int .i64 n))
        simp only [List.setIfInBounds_toArray, List.set_cons_zero, List.set_cons_succ] at HNo
        replace HB := Lib.hid (HB.out.setCell (p := ⟨bko, 1, none⟩) HSo.out (.int .i64 n))
        obtain ⟨s4, hs4⟩ : ∃ X, w3.setCell ⟨bko, 1, none⟩ (.int .i64 n) = X := ⟨_, rfl⟩
        rw [hs4] at HB HNc HNk HNr HNx HNb HNo
        go_wp2_with fail
        try clear hs4
        go_roundw
        case rel => exact ⟨n + 1, lo, n, false, by have := HN3.out; omega, rfl, Lib.hid ⟨hO.out.1.trans HN4.out.symm, HS1.out.2.symm, HS1.out.1.symm⟩, HB, HNc, HNk, HNr, HNx, HNb, HNo⟩
        case measure => have := HN3.out; simp [intOf]; omega
      · have HN4 := Lib.hid (HS3.out hO.out.2.2.symm)
        have zo0 := cellH HNo.out 0
        have zo1 := cellH HNo.out 1
        have zo2 := cellH HNo.out 2
        simp only [List.getElem?_toArray, List.getElem?_cons_zero, List.getElem?_cons_succ] at zo0 zo1 zo2
        have zfo := freeH HNo.out
        replace HNc := Lib.hid ((heap_other w3 (bko) 0 (.int .i64 n) _ HXc_o.out).trans HNc.out)
        replace HNk := Lib.hid ((heap_other w3 (bko) 0 (.int .i64 n) _ HXk_o.out).trans HNk.out)
        replace HNr := Lib.hid ((heap_other w3 (bko) 0 (.int .i64 n) _ HXr_o.out).trans HNr.out)
        replace HNx := Lib.hid ((heap_other w3 (bko) 0 (.int .i64 n) _ HXx_o.out).trans HNx.out)
        replace HNb := Lib.hid ((heap_other w3 (bko) 0 (.int .i64 n) _ HXb_o.out).trans HNb.out)
        replace HNo := Lib.hid (heap_same HNo.out 0 (.int .i64 n))
        simp only [List.setIfInBounds_toArray, List.set_cons_zero, List.set_cons_succ] at HNo
        replace HB := Lib.hid (HB.out.setCell (p := ⟨bko, 0, none⟩) HSo.out (.int .i64 n))
        obtain ⟨s5, hs5⟩ : ∃ X, w3.setCell ⟨bko, 0, none⟩ (.int .i64 n) = X := ⟨_, rfl⟩
        rw [hs5] at HB HNc HNk HNr HNx HNb HNo
        have zo0_5 := cellH HNo.out 0
        have zo1_5 := cellH HNo.out 1
        have zo2_5 := cellH HNo.out 2
        simp only [List.getElem?_toArray, List.getElem?_cons_zero, List.getElem?_cons_succ] at zo0_5 zo1_5 zo2_5
        have zfo_5 := freeH HNo.out
        replace HNc := Lib.hid ((heap_other s5 (bko) 1 (.int .i64 n) _ HXc_o.out).trans HNc.out)
        replace HNk := Lib.hid ((heap_other s5 (bko) 1 (.int .i64 n) _ HXk_o.out).trans HNk.out)
        replace HNr := Lib.hid ((heap_other s5 (bko) 1 (.int .i64 n) _ HXr_o.out).trans HNr.out)
        replace HNx := Lib.hid ((heap_other s5 (bko) 1 (.int .i64 n) _ HXx_o.out).trans HNx.out)
        replace HNb := Lib.hid ((heap_other s5 (bko) 1 (.int .i64 n) _ HXb_o.out).trans HNb.out)
        replace HNo := Lib.hid (heap_same HNo.out 1 (.int .i64 n))
        simp only [List.setIfInBounds_toArray, List.set_cons_zero, List.set_cons_succ] at HNo
        replace HB := Lib.hid (HB.out.setCell (p := ⟨bko, 1, none⟩) HSo.out (.int .i64 n))
        obtain ⟨s6, hs6⟩ : ∃ X, s5.setCell ⟨bko, 1, none⟩ (.int .i64 n) = X := ⟨_, rfl⟩
        rw [hs6] at HB HNc HNk HNr HNx HNb HNo
        have zo0_6 := cellH HNo.out 0
        have zo1_6 := cellH HNo.out 1
        have zo2_6 := cellH HNo.out 2
        simp only [List.getElem?_toArray, List.getElem?_cons_zero, List.getElem?_cons_succ] at zo0_6 zo1_6 zo2_6
        have zfo_6 := freeH HNo.out
        replace HNc := Lib.hid ((heap_other s6 (bko) 2 (.bool false) _ HXc_o.out).trans HNc.out)
        replace HNk := Lib.hid ((heap_other s6 (bko) 2 (.bool false) _ HXk_o.out).trans HNk.out)
        replace HNr := Lib.hid ((heap_other s6 (bko) 2 (.bool false) _ HXr_o.out).trans HNr.out)
        replace HNx := Lib.hid ((heap_other s6 (bko) 2 (.bool false) _ HXx_o.out).trans HNx.out)
        replace HNb := Lib.hid ((heap_other s6 (bko) 2 (.bool false) _ HXb_o.out).trans HNb.out)
        replace HNo := Lib.hid (heap_same HNo.out 2 (.bool false))
        simp only [List.setIfInBounds_toArray, List.set_cons_zero, List.set_cons_succ] at HNo
        replace HB := Lib.hid (HB.out.setCell (p := ⟨bko, 2, none⟩) HSo.out (.bool false))
        obtain ⟨s7, hs7⟩ : ∃ X, s6.setCell ⟨bko, 2, none⟩ (.bool false) = X := ⟨_, rfl⟩
        rw [hs7] at HB HNc HNk HNr HNx HNb HNo
        have zo0_7 := cellH HNo.out 0
        have zo1_7 := cellH HNo.out 1
        have zo2_7 := cellH HNo.out 2
        simp only [List.getElem?_toArray, List.getElem?_cons_zero, List.getElem?_cons_succ] at zo0_7 zo1_7 zo2_7
        have zfo_7 := freeH HNo.out
        replace HNc := Lib.hid ((heap_other s7 (bko) 1 (.int .i64 n) _ HXc_o.out).trans HNc.out)
        replace HNk := Lib.hid ((heap_other s7 (bko) 1 (.int .i64 n) _ HXk_o.out).trans HNk.out)
        replace HNr := Lib.hid ((heap_other s7 (bko) 1 (.int .i64 n) _ HXr_o.out).trans HNr.out)
        replace HNx := Lib.hid ((heap_other s7 (bko) 1 (.int .i64 n) _ HXx_o.out).trans HNx.out)
        replace HNb := Lib.hid ((heap_other s7 (bko) 1 (.int .i64 n) _ HXb_o.out).trans HNb.out)
        replace HNo := Lib.hid (heap_same HNo.out 1 (.int .i64 n))
        simp only [List.setIfInBounds_toArray, List.set_cons_zero, List.set_cons_succ] at HNo
        replace HB := Lib.hid (HB.out.setCell (p := ⟨bko, 1, none⟩) HSo.out (.int .i64 n))
        obtain ⟨s8, hs8⟩ : ∃ X, s7.setCell ⟨bko, 1, none⟩ (.int .i64 n) = X := ⟨_, rfl⟩
        rw [hs8] at HB HNc HNk HNr HNx HNb HNo
        go_wp2_with fail
        try clear hs5 hs6 hs7 hs8
        go_roundw
        case rel => exact ⟨n + 1, n, n, false, by have := HN3.out; omega, rfl, Lib.hid ⟨HN4.out.symm, HS1.out.2.symm, HS1.out.1.symm⟩, HB, HNc, HNk, HNr, HNx, HNb, HNo⟩
        case measure => have := HN3.out; simp [intOf]; omega
    · obtain rfl : n = 301 := by omega
      have HF1 : Hid (no = !AB ∧ lo = RL ∧ hi = RH) := Lib.hid ⟨hO.out.2.2.trans HLA.out.1, hO.out.1.trans HLA.out.2.1, hO.out.2.1.trans HLA.out.2.2⟩
      have zr0 := cellH HNr.out 0
      have zr1 := cellH HNr.out 1
      have zr2 := cellH HNr.out 2
      have zo0 := cellH HNo.out 0
      have zo1 := cellH HNo.out 1
      have zo2 := cellH HNo.out 2
      simp only [List.getElem?_toArray, List.getElem?_cons_zero, List.getElem?_cons_succ] at zr0 zr1 zr2 zo0 zo1 zo2
      have zfr := freeH HNr.out
      go_wp2_with fail
      obtain ⟨z1, z2⟩ := set3 HNr.out HB.out (by omega) (.int .i64 lo) (.int .i64 hi) (.bool no)
      refine bodyPost_ret (results_cell_row Tryz.results111 _ _ (w.heap.size + 1 + 1) 179 _ (0, 0) _ rfl z1 Tryz.underlying179 rfl info_lm3) rfl ?_
      exact ⟨by rw [HF1.out.1, HF1.out.2.1, HF1.out.2.2], z2⟩
end Go.Proofs.YtebdboacmeafaaaGreat
