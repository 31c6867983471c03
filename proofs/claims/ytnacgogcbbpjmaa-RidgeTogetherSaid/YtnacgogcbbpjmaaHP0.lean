/- farAt and sees of package ridge. -/
import Derived.Test.YtnacgogcbbpjmaaHC1
import Derived.Test.YtnacgogcbbpjmaaHL1
set_option linter.unusedVariables false
set_option linter.unusedSimpArgs false
namespace Go.Proofs.Ytnacgogcbbpjmaa
open Go Go.RowKit

/-- How far an eye sees in a minute. -/
def faO : List Hz → Int → Int
  | [], _ => 100
  | h :: l, t => if wiB t h.fr h.to = true then h.far else faO l t
set_option maxRecDepth 100000 in
set_option maxHeartbeats 8000000 in
theorem farAt_any (wd hg : Int) (o tv hv : Value) (H : List Hz) (tick : Int) (w : World) (hh : HzRow w hv H) (hhl : H.length ≤ 1000000) :
    Calls Try.prog 26 #[coV wd hg o tv hv, .int .i64 tick] w fun e w' => e = .returned (.int .i64 (faO H tick)) ∧ Below w.heap.size w w' := by
  obtain ⟨ha, hc, rfl, hcc⟩ := hh.form
  have HC := Lib.hid hcc
  obtain ⟨W1, hW1, hb0, hs1, hrd⟩ := co_reads w wd hg o tv (.slice ha H.length hc)
  have HW1 := Lib.hid hW1; have HB0 := Lib.hid hb0; have HRD := Lib.hid hrd
  clear hcc hh hW1 hb0 hs1 hrd
  unfold coV
  go_enter Try.func26, Try.ntmps26
  go_wp2_with fail
  rw [← HW1.out]
  obtain ⟨p0, p1, p2, p3, p4⟩ := HRD.out W1 (Below.refl _ _)
  go_wp2_with fail
  clear p0 p1 p2 p3 p4
  go_loopw [10] (fun i wr => ∃ (k : Nat), k ≤ H.length ∧ i = .int .i64 k ∧ Hid (faO H tick = faO (H.drop k) tick) ∧ Hid (Below w.heap.size w wr)) (fun i _ => H.length - (intOf i).toNat)
  case atStart => exact ⟨0, Nat.zero_le _, rfl, Lib.hid rfl, HB0⟩
  case round =>
    obtain ⟨k, hk, rfl, hT, hB⟩ := hrel
    by_cases hkl : k < H.length
    · obtain ⟨b, off, rfl, hb, c0, c1, c2⟩ := HC.out k hkl
      have hki : (k : Int) < H.length := by omega
      have hk0 : (0 : Int) ≤ k := by omega
      have e0 := (hB.out.cell (p := ⟨b, _, none⟩) hb).trans c0
      have e1 := (hB.out.cell (p := ⟨b, _, none⟩) hb).trans c1
      have e2 := (hB.out.cell (p := ⟨b, _, none⟩) hb).trans c2
      have hD : Hid (faO (H.drop k) tick = if wiB tick (H.getD k .nil).fr (H.getD k .nil).to = true then (H.getD k .nil).far else faO (H.drop (k + 1)) tick) := Lib.hid (by rw [hdrop_at hkl]; rfl)
      obtain ⟨⟨lo, hi, fa⟩, hx⟩ : ∃ x, H.getD k .nil = x := ⟨_, rfl⟩
      rw [hx] at e0 e1 e2 hD
      simp only at e0 e1 e2 hD
      have HB1 : Hid (∀ o, Below w.heap.size w (wr.alloc o)) := Lib.hid fun o => hB.out.alloc hB.out.size o
      have HW1 := Lib.hid (within_any tick lo hi)
      clear c0 c1 c2 hb hx
      go_wp2_with fail
      refine (HW1.out _).mono ?_
      rintro e w1 ⟨rfl, rfl⟩
      cases q : wiB tick lo hi
      · rw [q] at hD
        have HN : Hid (faO H tick = faO (H.drop (k + 1)) tick) := Lib.hid (by rw [hT.out, hD.out]; simp)
        have HBX := Lib.hid (HB1.out)
        clear hD q
        go_wp2_with fail
        go_roundw
        case rel => exact ⟨k + 1, by omega, by go_num, HN, Lib.hid (HB1.out _)⟩
        case measure => simp [intOf]; omega
      · rw [q] at hD
        have HN : Hid (faO H tick = fa) := Lib.hid (by rw [hT.out, hD.out]; simp)
        clear hD q
        go_wp2_with fail
        go_ret
        exact ⟨by rw [HN.out]; rfl, HB1.out _⟩
    · obtain rfl : k = H.length := by omega
      have HN : Hid (faO H tick = 100) := Lib.hid (by rw [hT.out, List.drop_length]; rfl)
      go_wp2_with fail
      go_ret
      exact ⟨by rw [HN.out]; rfl, hB.out⟩
/-- A tower sees a place if an eye sees as far. -/
def nrB (a b : Pl) (far : Int) : Bool := decide ((b.1 - a.1) * (b.1 - a.1) + (b.2 - a.2) * (b.2 - a.2) ≤ far * far)
def seB (g : List Int) (wd : Int) (t : Tw) (p : Pl) (rise far : Int) : Bool := nrB (t.x, t.y) p far && freeB g wd (t.x, t.y) t.h p rise

theorem sq_bd {x : Int} (h1 : -49 ≤ x) (h2 : x ≤ 49) : 0 ≤ x * x ∧ x * x ≤ 2401 := by
  by_cases h : 0 ≤ x
  · exact ⟨Int.mul_nonneg h h, Int.mul_le_mul (show x ≤ 49 from h2) (show x ≤ 49 from h2) h (by decide)⟩
  · have e : x * x = (-x) * (-x) := (Int.neg_mul_neg x x).symm
    rw [e]
    exact ⟨Int.mul_nonneg (by omega) (by omega), Int.mul_le_mul (show -x ≤ 49 by omega) (show -x ≤ 49 by omega) (by omega) (by decide)⟩
set_option maxRecDepth 100000 in
set_option maxHeartbeats 8000000 in
theorem sees_any (wd hg : Int) (o : Value) (g : List Int) (ti tx ty th x y rise far : Int) (w : World) (hv : INRow w o g) (hm : vmB wd hg g = true) (ha : onB wd hg (tx, ty) = true) (hb : onB wd hg (x, y) = true) (hup : 0 ≤ th ∧ th ≤ 200) (hri : 0 ≤ rise ∧ rise ≤ 200) (hfa : 0 ≤ far ∧ far ≤ 100) :
    Calls Try.prog 28 #[.agg #[.int .i64 wd, .int .i64 hg, o], .agg #[.int .i64 ti, .int .i64 tx, .int .i64 ty, .int .i64 th], .agg #[.int .i64 x, .int .i64 y], .int .i64 rise, .int .i64 far] w fun e w' => e = .returned (.bool (seB g wd ⟨ti, tx, ty, th⟩ (x, y) rise far)) ∧ Below w.heap.size w w' := by
  have HFR := Lib.hid (fun w' (h : Below w.heap.size w w') => free_any wd hg o g (tx, ty) (x, y) th rise w' (hv.keep h) hm ha hb hup hri)
  unfold mpV plV at HFR
  obtain ⟨oa, oc, rfl, _⟩ := hv.form
  obtain ⟨m1, m2, m3, m4, _, _⟩ := vmB_ok hm
  obtain ⟨k1, k2, k3, k4⟩ := onB_ok ha
  obtain ⟨k5, k6, k7, k8⟩ := onB_ok hb
  simp only at k1 k2 k3 k4 k5 k6 k7 k8
  have hx := sq_bd (x := x - tx) (by omega) (by omega)
  have hy := sq_bd (x := y - ty) (by omega) (by omega)
  have hf : 0 ≤ far * far ∧ far * far ≤ 10000 := by
    constructor
    · exact Int.mul_nonneg hfa.1 hfa.1
    · exact Int.mul_le_mul hfa.2 hfa.2 hfa.1 (by decide)
  have w1 : wrap64 (x - tx) = x - tx := w64 (by omega)
  have w2 : wrap64 (y - ty) = y - ty := w64 (by omega)
  have w3 : wrap64 ((x - tx) * (x - tx)) = (x - tx) * (x - tx) := w64 (by omega)
  have w4 : wrap64 ((y - ty) * (y - ty)) = (y - ty) * (y - ty) := w64 (by omega)
  have w5 : wrap64 ((x - tx) * (x - tx) + (y - ty) * (y - ty)) = (x - tx) * (x - tx) + (y - ty) * (y - ty) := w64 (by omega)
  have w6 : wrap64 (far * far) = far * far := w64 (by omega)
  have HSE : Hid (∀ b : Bool, b = nrB (tx, ty) (x, y) far → seB g wd ⟨ti, tx, ty, th⟩ (x, y) rise far = (b && freeB g wd (tx, ty) th (x, y) rise)) := Lib.hid (fun b h => by rw [h]; rfl)
  unfold nrB at HSE
  simp only at HSE HFR
  clear hv hm ha hb hup hri hfa m1 m2 m3 m4 k1 k2 k3 k4 k5 k6 k7 k8
  have HLE : Hid (∀ b : Bool, decide ((x - tx) * (x - tx) + (y - ty) * (y - ty) ≤ far * far) = b → decide (wrap64 (wrap64 ((x - tx) * (x - tx)) + wrap64 ((y - ty) * (y - ty))) ≤ wrap64 (far * far)) = b) := Lib.hid (fun b h => by rw [w3, w4, w5, w6]; exact h)
  clear w3 w4 w5 w6 hx hy hf
  have HRD : Hid (∀ W', Below (((w.alloc (.cells #[.int .i64 wd, .int .i64 hg, .slice oa g.length oc] 24)).alloc (.cells #[.int .i64 ti, .int .i64 tx, .int .i64 ty, .int .i64 th] 48)).alloc (.cells #[.int .i64 x, .int .i64 y] 32)).heap.size (((w.alloc (.cells #[.int .i64 wd, .int .i64 hg, .slice oa g.length oc] 24)).alloc (.cells #[.int .i64 ti, .int .i64 tx, .int .i64 ty, .int .i64 th] 48)).alloc (.cells #[.int .i64 x, .int .i64 y] 32)) W' → W'.cell? ⟨w.heap.size, 0, none⟩ = some (.int .i64 wd) ∧ W'.cell? ⟨w.heap.size, 1, none⟩ = some (.int .i64 hg) ∧ W'.cell? ⟨w.heap.size, 2, none⟩ = some (.slice oa g.length oc) ∧ W'.cell? ⟨w.heap.size + 1, 0, none⟩ = some (.int .i64 ti) ∧ W'.cell? ⟨w.heap.size + 1, 1, none⟩ = some (.int .i64 tx) ∧ W'.cell? ⟨w.heap.size + 1, 2, none⟩ = some (.int .i64 ty) ∧ W'.cell? ⟨w.heap.size + 1, 3, none⟩ = some (.int .i64 th) ∧ W'.cell? ⟨w.heap.size + 1 + 1, 0, none⟩ = some (.int .i64 x) ∧ W'.cell? ⟨w.heap.size + 1 + 1, 1, none⟩ = some (.int .i64 y) ∧ Below w.heap.size w W') := Lib.hid (fun W' h => by
    obtain ⟨a, b, c, _, d⟩ := three_cells w _ _ _ _ _ _ h
    exact ⟨cellH a 0, cellH a 1, cellH a 2, cellH b 0, cellH b 1, cellH b 2, cellH b 3, cellH c 0, cellH c 1, d⟩)
  obtain ⟨Z, hZ⟩ : ∃ Z, (((w.alloc (.cells #[.int .i64 wd, .int .i64 hg, .slice oa g.length oc] 24)).alloc (.cells #[.int .i64 ti, .int .i64 tx, .int .i64 ty, .int .i64 th] 48)).alloc (.cells #[.int .i64 x, .int .i64 y] 32)) = Z := ⟨_, rfl⟩
  rw [hZ] at HRD
  have HZ := Lib.hid hZ
  clear hZ
  go_enter Try.func28, Try.ntmps28
  go_wp2_with fail
  rw [HZ.out]
  refine wp_region_turn 13 (fun _ w' => Below Z.heap.size Z w') (by kernel_rfl) (by kernel_rfl) ((Below.refl _ Z).drew) ?_
  simp only [List.take_succ_cons, List.take_zero, List.drop_succ_cons, List.drop_zero]
  iterate 13
    (apply turnC_step (by rfl); (intro w' hw'; obtain ⟨r0, r1, r2, q0, q1, q2, q3, q4, q5, _⟩ := HRD.out w' hw'; go_simp; first | exact ⟨hw', rfl⟩ | exact rfl))
    simp only [Act.put, List.setIfInBounds_toArray, List.set_cons_succ, List.set_cons_zero]
  intro listed w5 _ hw5
  have HD5 := Lib.hid hw5
  obtain ⟨r0, r1, r2, q0, q1, q2, q3, q4, q5, hb5⟩ := HRD.out w5 hw5
  have HB5 := Lib.hid hb5
  clear hw5 hb5
  rcases Bool.eq_false_or_eq_true (decide ((x - tx) * (x - tx) + (y - ty) * (y - ty) ≤ far * far)) with hle | hle
  · have qle := HLE.out _ hle
    have hS := HSE.out true hle.symm
    have HS := Lib.hid hS
    clear hS hle
    go_wp2_with fail
    refine (HFR.out _ HB5.out).mono ?_
    rintro e w6 ⟨rfl, hb6⟩
    have HB6 := Lib.hid (HB5.out.trans (hb6.mono HB5.out.size))
    clear hb6 r0 r1 r2 q0 q1 q2 q3 q4 q5
    go_wp2_with fail
    go_ret
    exact ⟨by rw [HS.out]; rfl, HB6.out⟩
  · have qle := HLE.out _ hle
    have hS := HSE.out false hle.symm
    have HS := Lib.hid hS
    clear hS hle
    go_wp2_with fail
    go_ret
    exact ⟨by rw [HS.out]; rfl, HB5.out⟩

end Go.Proofs.Ytnacgogcbbpjmaa

/-! watching of package ridge: which towers see a place. -/
set_option linter.unusedVariables false
set_option linter.unusedSimpArgs false
namespace Go.Proofs.Ytnacgogcbbpjmaa
open Go Go.RowKit

/-- The number whose bits say of which indices something holds. -/
def mTo (f : Nat → Bool) : Nat → Nat
  | 0 => 0
  | k + 1 => if f k then mTo f k + 2 ^ k else mTo f k
theorem mTo_lt (f : Nat → Bool) : ∀ k, mTo f k < 2 ^ k
  | 0 => by simp [mTo]
  | k + 1 => by
    have h := mTo_lt f k
    have h2 : 2 ^ (k + 1) = 2 ^ k + 2 ^ k := by rw [Nat.pow_succ]; omega
    rw [mTo, h2]
    split <;> omega
theorem mTo_zero (f : Nat → Bool) : ∀ k, mTo f k = 0 ↔ ∀ i, i < k → f i = false
  | 0 => by simp [mTo]
  | k + 1 => by
    rw [mTo]
    have h := mTo_zero f k
    have hp : 0 < 2 ^ k := Nat.two_pow_pos k
    split
    · rename_i hf
      constructor
      · intro h0; omega
      · intro h0; rw [h0 k (by omega)] at hf; cases hf
    · rename_i hf
      rw [h]
      constructor
      · intro h0 i hi
        by_cases e : i = k
        · subst e; simpa using hf
        · exact h0 i (by omega)
      · intro h0 i hi; exact h0 i (by omega)
theorem pow_bd {k : Nat} (h : k ≤ 12) : 2 ^ k ≤ 4096 := by
  have := Nat.pow_le_pow_right (show 0 < 2 by decide) h
  simpa using this
theorem u64_nat {n : Nat} (h : n < 18446744073709551616) : IntKind.u64.wrap (n : Int) = n := IntWalk.u64_in _ (by omega)
theorem pow_cast (k : Nat) : ((2 : Int) ^ k) = ((2 ^ k : Nat) : Int) := by simp
theorem or_add {k a : Nat} (hk : k ≤ 12) (ha : a < 2 ^ k) : bits .or .u64 (a : Int) ((2 : Int) ^ k) = ((a + 2 ^ k : Nat) : Int) := by
  have hp := pow_bd hk
  have e2 : ∀ n : Nat, BitVec.ofInt 64 (n : Int) = BitVec.ofNat 64 n := fun n => by simp
  have e4 : (BitVec.ofNat 64 a ||| BitVec.ofNat 64 (2 ^ k)).toNat = a + 2 ^ k := by
    rw [BitVec.toNat_or, BitVec.toNat_ofNat, BitVec.toNat_ofNat, Nat.mod_eq_of_lt (by omega), Nat.mod_eq_of_lt (by omega)]
    have h := Nat.two_pow_add_eq_or_of_lt ha 1
    rw [Nat.mul_one] at h
    rw [Nat.or_comm, ← h, Nat.add_comm]
  show IntKind.u64.wrap ((BitVec.ofInt 64 (a : Int) ||| BitVec.ofInt 64 ((2 : Int) ^ k)).toNat : Int) = _
  rw [pow_cast, e2, e2, e4]
  exact u64_nat (by omega)
theorem only_any (k : Nat) (hk : k ≤ 12) (w : World) : Calls Try.prog 66 #[.int .i64 k] w fun e w' => e = .returned (.int .u64 ((2 : Int) ^ k)) ∧ w' = w := by
  have hp := pow_bd hk
  have hk0 : (0 : Int) ≤ k := by omega
  have hmin : min ((k : Int).toNat) 64 = k := by omega
  have hw : IntKind.u64.wrap ((2 : Int) ^ k) = (2 : Int) ^ k := by rw [pow_cast]; exact u64_nat (by omega)
  go_enter Try.func66, Try.ntmps66
  go_wp2_with fail
  go_ret
  exact ⟨rfl, rfl⟩
/-- Whether the tower with an index sees a place. -/
def seI (g : List Int) (wd : Int) (l : List Tw) (p : Pl) (rise far : Int) (i : Nat) : Bool := seB g wd (l.getD i .nil) p rise far
set_option maxRecDepth 100000 in
set_option maxHeartbeats 8000000 in
theorem watching_any (wd hg : Int) (o : Value) (g : List Int) (v : Value) (l : List Tw) (x y rise far : Int) (w : World) (hv : INRow w o g) (ht : TwRow w v l) (hn : l.length ≤ 12) (hok : ∀ t ∈ l, okT wd hg t) (hm : vmB wd hg g = true) (hb : onB wd hg (x, y) = true) (hri : 0 ≤ rise ∧ rise ≤ 200) (hfa : 0 ≤ far ∧ far ≤ 100) :
    Calls Try.prog 57 #[.agg #[.int .i64 wd, .int .i64 hg, o], v, .agg #[.int .i64 x, .int .i64 y], .int .i64 rise, .int .i64 far] w fun e w' => e = .returned (.int .u64 (mTo (seI g wd l (x, y) rise far) l.length : Nat)) ∧ Below w.heap.size w w' := by
  have HSE : Hid (∀ t, t ∈ l → ∀ w', Below w.heap.size w w' → Calls Try.prog 28 #[.agg #[.int .i64 wd, .int .i64 hg, o], .agg #[.int .i64 t.id, .int .i64 t.x, .int .i64 t.y, .int .i64 t.h], .agg #[.int .i64 x, .int .i64 y], .int .i64 rise, .int .i64 far] w' fun e w'' => e = .returned (.bool (seB g wd t (x, y) rise far)) ∧ Below w'.heap.size w' w'') := Lib.hid (fun t htm w' h => by
    have h1 := hok t htm
    obtain ⟨ti, tx, ty, th⟩ := t
    have h2 := h1.2.2
    unfold wiB at h2
    simp only [Bool.and_eq_true, decide_eq_true_eq] at h2
    exact sees_any wd hg o g ti tx ty th x y rise far w' (hv.keep h) hm h1.2.1 hb h2 hri hfa)
  obtain ⟨ta, tc, rfl, htc⟩ := ht.form
  have HTC := Lib.hid htc
  obtain ⟨oa, oc, rfl, _⟩ := hv.form
  clear hv ht hok hm hb hri hfa htc
  have HRD : Hid (∀ W', Below ((w.alloc (.cells #[.int .i64 wd, .int .i64 hg, .slice oa g.length oc] 24)).alloc (.cells #[.int .i64 x, .int .i64 y] 32)).heap.size ((w.alloc (.cells #[.int .i64 wd, .int .i64 hg, .slice oa g.length oc] 24)).alloc (.cells #[.int .i64 x, .int .i64 y] 32)) W' → W'.cell? ⟨w.heap.size, 0, none⟩ = some (.int .i64 wd) ∧ W'.cell? ⟨w.heap.size, 1, none⟩ = some (.int .i64 hg) ∧ W'.cell? ⟨w.heap.size, 2, none⟩ = some (.slice oa g.length oc) ∧ W'.cell? ⟨w.heap.size + 1, 0, none⟩ = some (.int .i64 x) ∧ W'.cell? ⟨w.heap.size + 1, 1, none⟩ = some (.int .i64 y) ∧ w.heap.size + 1 < W'.heap.size ∧ Below w.heap.size w W') := Lib.hid (fun W' h => by
    obtain ⟨a, b, c, d⟩ := two_cells w _ _ _ _ h
    exact ⟨cellH a 0, cellH a 1, cellH a 2, cellH b 0, cellH b 1, c, d⟩)
  obtain ⟨Z, hZ⟩ : ∃ Z, ((w.alloc (.cells #[.int .i64 wd, .int .i64 hg, .slice oa g.length oc] 24)).alloc (.cells #[.int .i64 x, .int .i64 y] 32)) = Z := ⟨_, rfl⟩
  rw [hZ] at HRD
  have HZ := Lib.hid hZ
  clear hZ
  go_enter Try.func57, Try.ntmps57
  go_wp2_with fail
  rw [HZ.out]
  go_loopw [11, 16] (fun m i wr => ∃ (k : Nat), k ≤ l.length ∧ i = .int .i64 k ∧ m = .int .u64 (mTo (seI g wd l (x, y) rise far) k : Nat) ∧ Hid (Below Z.heap.size Z wr)) (fun _ i _ => l.length - (intOf i).toNat)
  case atStart => exact ⟨0, Nat.zero_le _, rfl, rfl, Lib.hid (Below.refl _ _)⟩
  case round =>
    obtain ⟨k, hk, rfl, rfl, hD⟩ := hrel
    obtain ⟨r0, r1, r2, r3, r4, hsz, hb0⟩ := HRD.out wr hD.out
    have hn1 : w.heap.size ≠ wr.heap.size := by omega
    have hn2 : w.heap.size + 1 ≠ wr.heap.size := by omega
    have hn3 : w.heap.size < wr.heap.size := by omega
    have hB := Lib.hid hb0
    clear hb0
    by_cases hkl : k < l.length
    · obtain ⟨b, off, rfl, hb, c0, c1, c2, c3⟩ := HTC.out k hkl
      have hki : (k : Int) < l.length := by omega
      have hk0 : (0 : Int) ≤ k := by omega
      have e0 := (hB.out.cell (p := ⟨b, _, none⟩) hb).trans c0
      have e1 := (hB.out.cell (p := ⟨b, _, none⟩) hb).trans c1
      have e2 := (hB.out.cell (p := ⟨b, _, none⟩) hb).trans c2
      have e3 := (hB.out.cell (p := ⟨b, _, none⟩) hb).trans c3
      have hlk : l.getD k .nil ∈ l := by rw [getD_tw hkl]; exact List.getElem_mem _
      have HSK := Lib.hid (HSE.out _ hlk)
      have hF : seB g wd (l.getD k .nil) (x, y) rise far = seI g wd l (x, y) rise far k := rfl
      obtain ⟨m, hmm⟩ : ∃ m, mTo (seI g wd l (x, y) rise far) k = m := ⟨_, rfl⟩
      have HOR : Hid (bits .or .u64 (m : Int) ((2 : Int) ^ k) = ((m + 2 ^ k : Nat) : Int)) := Lib.hid (by rw [← hmm]; exact or_add (by omega) (mTo_lt _ k))
      have HN : Hid (mTo (seI g wd l (x, y) rise far) (k + 1) = if seI g wd l (x, y) rise far k then m + 2 ^ k else m) := Lib.hid (by rw [mTo, hmm])
      have HONL := Lib.hid (fun w' => only_any k (by omega) w')
      rw [hmm]
      rw [hF] at HSK
      obtain ⟨fb, hfb⟩ : ∃ b, seI g wd l (x, y) rise far k = b := ⟨_, rfl⟩
      rw [hfb] at HSK HN
      obtain ⟨⟨ti, tx, ty, th⟩, hx⟩ : ∃ x, l.getD k .nil = x := ⟨_, rfl⟩
      rw [hx] at e0 e1 e2 e3 HSK
      simp only at e0 e1 e2 e3
      clear c0 c1 c2 c3 hb hx hF hlk hfb hmm
      go_wp2_with fail
      refine (HSK.out _ (hB.out.alloc hB.out.size _)).mono ?_
      rintro e w5 ⟨rfl, hb5⟩
      have HB5 := Lib.hid ((hD.out.alloc hD.out.size (.cells #[.int .i64 ti, .int .i64 tx, .int .i64 ty, .int .i64 th] 48)).trans (hb5.mono (hD.out.alloc hD.out.size (.cells #[.int .i64 ti, .int .i64 tx, .int .i64 ty, .int .i64 th] 48)).size))
      clear hb5 e0 e1 e2 e3 r0 r1 r2 r3 r4 hn1 hn2 hn3 hsz
      cases fb
      · have HN2 : Hid (((mTo (seI g wd l (x, y) rise far) (k + 1) : Nat) : Int) = m) := Lib.hid (by rw [HN.out]; rfl)
        go_wp2_with fail
        go_roundw
        case rel => exact ⟨k + 1, by omega, by go_num, by rw [HN2.out], HB5⟩
        case measure => simp [intOf]; omega
      · have HN2 : Hid (((mTo (seI g wd l (x, y) rise far) (k + 1) : Nat) : Int) = ((m + 2 ^ k : Nat) : Int)) := Lib.hid (by rw [HN.out]; rfl)
        have hor := HOR.out
        go_wp2_with fail
        refine (HONL.out _).mono ?_
        rintro e w6 ⟨rfl, rfl⟩
        go_wp2_with fail
        go_roundw
        case rel => exact ⟨k + 1, by omega, by go_num, by rw [HN2.out, Int.natCast_add, ← pow_cast], HB5⟩
        case measure => simp [intOf]; omega
    · obtain rfl : k = l.length := by omega
      go_wp2_with fail
      go_ret
      exact ⟨rfl, hB.out⟩
end Go.Proofs.Ytnacgogcbbpjmaa
