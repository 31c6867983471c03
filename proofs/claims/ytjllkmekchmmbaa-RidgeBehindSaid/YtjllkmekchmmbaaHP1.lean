/- watching of package ridge: which towers see a place. -/
import Derived.Test.YtjllkmekchmmbaaHP0
set_option linter.unusedVariables false
set_option linter.unusedSimpArgs false
namespace Go.Proofs.Ytjllkmekchmmbaa
open Go Go.RowKit

/-- The number whose bits say of which indices something holds. -/
def mTo (f : Nat → Bool) : Nat → Nat
  | 0 => 0
  | k + 1 => if f k then mTo f k + 2 ^ k else mTo f k
theorem mTo_lt (f : Nat → Bool) : ∀ k, mTo f k < 2 ^ k
  | 0 => by simp [mTo]
  | k + 1 => by
    have h := mTo_lt f k
    have h2 : 2 ^ (k + 1) = 2 ^ k + 2 ^ k := by rw [Nat.pow_succ]; omega
    rw [mTo, h2]
    split <;> omega
theorem mTo_zero (f : Nat → Bool) : ∀ k, mTo f k = 0 ↔ ∀ i, i < k → f i = false
  | 0 => by simp [mTo]
  | k + 1 => by
    rw [mTo]
    have h := mTo_zero f k
    have hp : 0 < 2 ^ k := Nat.two_pow_pos k
    split
    · rename_i hf
      constructor
      · intro h0; omega
      · intro h0; rw [h0 k (by omega)] at hf; cases hf
    · rename_i hf
      rw [h]
      constructor
      · intro h0 i hi
        by_cases e : i = k
        · subst e; simpa using hf
        · exact h0 i (by omega)
      · intro h0 i hi; exact h0 i (by omega)
theorem pow_bd {k : Nat} (h : k ≤ 12) : 2 ^ k ≤ 4096 := by
  have := Nat.pow_le_pow_right (show 0 < 2 by decide) h
  simpa using this
theorem u64_nat {n : Nat} (h : n < 18446744073709551616) : IntKind.u64.wrap (n : Int) = n := IntWalk.u64_in _ (by omega)
theorem pow_cast (k : Nat) : ((2 : Int) ^ k) = ((2 ^ k : Nat) : Int) := by simp
theorem or_add {k a : Nat} (hk : k ≤ 12) (ha : a < 2 ^ k) : bits .or .u64 (a : Int) ((2 : Int) ^ k) = ((a + 2 ^ k : Nat) : Int) := by
  have hp := pow_bd hk
  have e2 : ∀ n : Nat, BitVec.ofInt 64 (n : Int) = BitVec.ofNat 64 n := fun n => by simp
  have e4 : (BitVec.ofNat 64 a ||| BitVec.ofNat 64 (2 ^ k)).toNat = a + 2 ^ k := by
    rw [BitVec.toNat_or, BitVec.toNat_ofNat, BitVec.toNat_ofNat, Nat.mod_eq_of_lt (by omega), Nat.mod_eq_of_lt (by omega)]
    have h := Nat.two_pow_add_eq_or_of_lt ha 1
    rw [Nat.mul_one] at h
    rw [Nat.or_comm, ← h, Nat.add_comm]
  show IntKind.u64.wrap ((BitVec.ofInt 64 (a : Int) ||| BitVec.ofInt 64 ((2 : Int) ^ k)).toNat : Int) = _
  rw [pow_cast, e2, e2, e4]
  exact u64_nat (by omega)
theorem only_any (k : Nat) (hk : k ≤ 12) (w : World) : Calls Try.prog 104 #[.int .i64 k] w fun e w' => e = .returned (.int .u64 ((2 : Int) ^ k)) ∧ w' = w := by
  have hp := pow_bd hk
  have hk0 : (0 : Int) ≤ k := by omega
  have hmin : min ((k : Int).toNat) 64 = k := by omega
  have hw : IntKind.u64.wrap ((2 : Int) ^ k) = (2 : Int) ^ k := by rw [pow_cast]; exact u64_nat (by omega)
  go_enter Try.func104, Try.ntmps104
  go_wp2_with fail
  go_ret
  exact ⟨rfl, rfl⟩
/-- Whether the tower with an index sees a place. -/
def seI (g : List Int) (wd : Int) (l : List Tw) (p : Pl) (rise far : Int) (i : Nat) : Bool := seB g wd (l.getD i .nil) p rise far
set_option maxRecDepth 100000 in
set_option maxHeartbeats 8000000 in
theorem watching_any (wd hg : Int) (o : Value) (g : List Int) (v : Value) (l : List Tw) (x y rise far : Int) (w : World) (hv : INRow w o g) (ht : TwRow w v l) (hn : l.length ≤ 12) (hok : ∀ t ∈ l, okT wd hg t) (hm : vmB wd hg g = true) (hb : onB wd hg (x, y) = true) (hri : 0 ≤ rise ∧ rise ≤ 200) (hfa : 0 ≤ far ∧ far ≤ 100) :
    Calls Try.prog 99 #[.agg #[.int .i64 wd, .int .i64 hg, o], v, .agg #[.int .i64 x, .int .i64 y], .int .i64 rise, .int .i64 far] w fun e w' => e = .returned (.int .u64 (mTo (seI g wd l (x, y) rise far) l.length : Nat)) ∧ Below w.heap.size w w' := by
  have HSE : Hid (∀ t, t ∈ l → ∀ w', Below w.heap.size w w' → Calls Try.prog 69 #[.agg #[.int .i64 wd, .int .i64 hg, o], .agg #[.int .i64 t.id, .int .i64 t.x, .int .i64 t.y, .int .i64 t.h], .agg #[.int .i64 x, .int .i64 y], .int .i64 rise, .int .i64 far] w' fun e w'' => e = .returned (.bool (seB g wd t (x, y) rise far)) ∧ Below w'.heap.size w' w'') := Lib.hid (fun t htm w' h => by
    have h1 := hok t htm
    obtain ⟨ti, tx, ty, th⟩ := t
    have h2 := h1.2.2
    unfold wiB at h2
    simp only [Bool.and_eq_true, decide_eq_true_eq] at h2
    exact sees_any wd hg o g ti tx ty th x y rise far w' (hv.keep h) hm h1.2.1 hb h2 hri hfa)
  obtain ⟨ta, tc, rfl, htc⟩ := ht.form
  have HTC := Lib.hid htc
  obtain ⟨oa, oc, rfl, _⟩ := hv.form
  clear hv ht hok hm hb hri hfa htc
  have HRD : Hid (∀ W', Below ((w.alloc (.cells #[.int .i64 wd, .int .i64 hg, .slice oa g.length oc] 24)).alloc (.cells #[.int .i64 x, .int .i64 y] 30)).heap.size ((w.alloc (.cells #[.int .i64 wd, .int .i64 hg, .slice oa g.length oc] 24)).alloc (.cells #[.int .i64 x, .int .i64 y] 30)) W' → W'.cell? ⟨w.heap.size, 0, none⟩ = some (.int .i64 wd) ∧ W'.cell? ⟨w.heap.size, 1, none⟩ = some (.int .i64 hg) ∧ W'.cell? ⟨w.heap.size, 2, none⟩ = some (.slice oa g.length oc) ∧ W'.cell? ⟨w.heap.size + 1, 0, none⟩ = some (.int .i64 x) ∧ W'.cell? ⟨w.heap.size + 1, 1, none⟩ = some (.int .i64 y) ∧ w.heap.size + 1 < W'.heap.size ∧ Below w.heap.size w W') := Lib.hid (fun W' h => by
    obtain ⟨a, b, c, d⟩ := two_cells w _ _ _ _ h
    exact ⟨cellH a 0, cellH a 1, cellH a 2, cellH b 0, cellH b 1, c, d⟩)
  obtain ⟨Z, hZ⟩ : ∃ Z, ((w.alloc (.cells #[.int .i64 wd, .int .i64 hg, .slice oa g.length oc] 24)).alloc (.cells #[.int .i64 x, .int .i64 y] 30)) = Z := ⟨_, rfl⟩
  rw [hZ] at HRD
  have HZ := Lib.hid hZ
  clear hZ
  go_enter Try.func99, Try.ntmps99
  go_wp2_with fail
  rw [HZ.out]
  go_loopw [11, 16] (fun m i wr => ∃ (k : Nat), k ≤ l.length ∧ i = .int .i64 k ∧ m = .int .u64 (mTo (seI g wd l (x, y) rise far) k : Nat) ∧ Hid (Below Z.heap.size Z wr)) (fun _ i _ => l.length - (intOf i).toNat)
  case atStart => exact ⟨0, Nat.zero_le _, rfl, rfl, Lib.hid (Below.refl _ _)⟩
  case round =>
    obtain ⟨k, hk, rfl, rfl, hD⟩ := hrel
    obtain ⟨r0, r1, r2, r3, r4, hsz, hb0⟩ := HRD.out wr hD.out
    have hn1 : w.heap.size ≠ wr.heap.size := by omega
    have hn2 : w.heap.size + 1 ≠ wr.heap.size := by omega
    have hn3 : w.heap.size < wr.heap.size := by omega
    have hB := Lib.hid hb0
    clear hb0
    by_cases hkl : k < l.length
    · obtain ⟨b, off, rfl, hb, c0, c1, c2, c3⟩ := HTC.out k hkl
      have hki : (k : Int) < l.length := by omega
      have hk0 : (0 : Int) ≤ k := by omega
      have e0 := (hB.out.cell (p := ⟨b, _, none⟩) hb).trans c0
      have e1 := (hB.out.cell (p := ⟨b, _, none⟩) hb).trans c1
      have e2 := (hB.out.cell (p := ⟨b, _, none⟩) hb).trans c2
      have e3 := (hB.out.cell (p := ⟨b, _, none⟩) hb).trans c3
      have hlk : l.getD k .nil ∈ l := by rw [getD_tw hkl]; exact List.getElem_mem _
      have HSK := Lib.hid (HSE.out _ hlk)
      have hF : seB g wd (l.getD k .nil) (x, y) rise far = seI g wd l (x, y) rise far k := rfl
      obtain ⟨m, hmm⟩ : ∃ m, mTo (seI g wd l (x, y) rise far) k = m := ⟨_, rfl⟩
      have HOR : Hid (bits .or .u64 (m : Int) ((2 : Int) ^ k) = ((m + 2 ^ k : Nat) : Int)) := Lib.hid (by rw [← hmm]; exact or_add (by omega) (mTo_lt _ k))
      have HN : Hid (mTo (seI g wd l (x, y) rise far) (k + 1) = if seI g wd l (x, y) rise far k then m + 2 ^ k else m) := Lib.hid (by rw [mTo, hmm])
      have HONL := Lib.hid (fun w' => only_any k (by omega) w')
      rw [hmm]
      rw [hF] at HSK
      obtain ⟨fb, hfb⟩ : ∃ b, seI g wd l (x, y) rise far k = b := ⟨_, rfl⟩
      rw [hfb] at HSK HN
      obtain ⟨⟨ti, tx, ty, th⟩, hx⟩ : ∃ x, l.getD k .nil = x := ⟨_, rfl⟩
      rw [hx] at e0 e1 e2 e3 HSK
      simp only at e0 e1 e2 e3
      clear c0 c1 c2 c3 hb hx hF hlk hfb hmm
      go_wp2_with fail
      refine (HSK.out _ (hB.out.alloc hB.out.size _)).mono ?_
      rintro e w5 ⟨rfl, hb5⟩
      have HB5 := Lib.hid ((hD.out.alloc hD.out.size (.cells #[.int .i64 ti, .int .i64 tx, .int .i64 ty, .int .i64 th] 73)).trans (hb5.mono (hD.out.alloc hD.out.size (.cells #[.int .i64 ti, .int .i64 tx, .int .i64 ty, .int .i64 th] 73)).size))
      clear hb5 e0 e1 e2 e3 r0 r1 r2 r3 r4 hn1 hn2 hn3 hsz
      cases fb
      · have HN2 : Hid (((mTo (seI g wd l (x, y) rise far) (k + 1) : Nat) : Int) = m) := Lib.hid (by rw [HN.out]; rfl)
        go_wp2_with fail
        go_roundw
        case rel => exact ⟨k + 1, by omega, by go_num, by rw [HN2.out], HB5⟩
        case measure => simp [intOf]; omega
      · have HN2 : Hid (((mTo (seI g wd l (x, y) rise far) (k + 1) : Nat) : Int) = ((m + 2 ^ k : Nat) : Int)) := Lib.hid (by rw [HN.out]; rfl)
        have hor := HOR.out
        go_wp2_with fail
        refine (HONL.out _).mono ?_
        rintro e w6 ⟨rfl, rfl⟩
        go_wp2_with fail
        go_roundw
        case rel => exact ⟨k + 1, by omega, by go_num, by rw [HN2.out, Int.natCast_add, ← pow_cast], HB5⟩
        case measure => simp [intOf]; omega
    · obtain rfl : k = l.length := by omega
      go_wp2_with fail
      go_ret
      exact ⟨rfl, hB.out⟩
end Go.Proofs.Ytjllkmekchmmbaa
