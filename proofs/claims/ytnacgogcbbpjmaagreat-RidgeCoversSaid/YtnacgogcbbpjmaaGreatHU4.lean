/- Spare of package ridge. -/
import Derived.Test.YtnacgogcbbpjmaaGreatHU3
set_option linter.unusedVariables false
set_option linter.unusedSimpArgs false
namespace Go.Proofs.YtnacgogcbbpjmaaGreat
open Go Go.RowKit

def ctB (f : Nat → Nat) (x n : Nat) : Bool := (List.range n).any fun i => f i == x
set_option maxRecDepth 100000 in
set_option maxHeartbeats 4000000 in
theorem IndexS_any (v : Value) (n : Nat) (f : Nat → Nat) (x : Nat) (q : Int) (hq : q = x) (w : World) (hv : MsRow w v n f) (hn : n ≤ 1000000) :
    Calls Tryz.prog 82 #[v, .int .u64 q] w fun e w' => ∃ r : Int, e = .returned (.int .i64 r) ∧ Below w.heap.size w w' ∧ decide (0 ≤ r) = ctB f x n ∧ r ≤ 1000000 := by
  subst hq
  obtain ⟨a, c, rfl, hc⟩ := hv
  have HC := Lib.hid hc
  clear hc
  go_enter Tryz.func82, Tryz.ntmps82
  go_wp2_with fail
  go_loopw [8] (fun i wr => ∃ (k : Nat), k ≤ n ∧ i = .int .i64 k ∧ Hid (∀ j, j < k → f j ≠ x) ∧ Hid (Below w.heap.size w wr)) (fun i _ => n - (intOf i).toNat)
  case atStart => exact ⟨0, Nat.zero_le _, rfl, Lib.hid (fun j hj => by omega), Lib.hid (Below.refl _ _)⟩
  case round =>
    obtain ⟨k, hk, rfl, hT, hB⟩ := hrel
    by_cases hkl : k < n
    · obtain ⟨b, off, rfl, hb, c0⟩ := HC.out k hkl
      have hki : (k : Int) < n := by omega
      have hk0 : (0 : Int) ≤ k := by omega
      have e0 := (hB.out.cell (p := ⟨b, _, none⟩) hb).trans c0
      clear c0 hb
      by_cases hz : f k = x
      · have HF : Hid (decide (0 ≤ (k : Int)) = ctB f x n ∧ (k : Int) ≤ 1000000) := Lib.hid (by
          refine ⟨?_, by omega⟩
          have h1 : ctB f x n = true := by
            unfold ctB
            rw [List.any_eq_true]
            exact ⟨k, List.mem_range.2 hkl, by simp [hz]⟩
          rw [h1]; simp)
        rw [hz] at e0
        have hq1 : ((x : Int) == (x : Int)) = true := by simp
        clear hz
        go_wp2_with fail
        go_ret
        exact ⟨_, rfl, hB.out, HF.out.1, HF.out.2⟩
      · have HN : Hid (∀ j, j < k + 1 → f j ≠ x) := Lib.hid (fun j hj => by
          by_cases e : j = k
          · subst e; exact hz
          · exact hT.out j (by omega))
        obtain ⟨o, ho⟩ : ∃ o, f k = o := ⟨_, rfl⟩
        rw [ho] at e0 hz
        have hq1 : ((x : Int) == (o : Int)) = false := by simp; omega
        have hq2 : ((o : Int) == (x : Int)) = false := by simp; omega
        clear ho hz
        go_wp2_with fail
        go_roundw
        case rel => exact ⟨k + 1, by omega, by go_num, HN, hB⟩
        case measure => simp [intOf]; omega
    · obtain rfl : k = n := by omega
      have HF : Hid (decide (0 ≤ (-1 : Int)) = ctB f x k ∧ (-1 : Int) ≤ 1000000) := Lib.hid (by
        refine ⟨?_, by omega⟩
        have h1 : ctB f x k = false := by
          unfold ctB
          rw [List.any_eq_false]
          exact fun j hj => by simpa using hT.out j (List.mem_range.1 hj)
        rw [h1]; rfl)
      go_wp2_with fail
      go_ret
      exact ⟨_, rfl, hB.out, HF.out.1, HF.out.2⟩
theorem ContainsS_any (v : Value) (n : Nat) (f : Nat → Nat) (x : Nat) (q : Int) (hq : q = x) (w : World) (hv : MsRow w v n f) (hn : n ≤ 1000000) :
    Calls Tryz.prog 55 #[v, .int .u64 q] w fun e w' => e = .returned (.bool (ctB f x n)) ∧ Below w.heap.size w w' := by
  have HI := Lib.hid (IndexS_any v n f x q hq w hv hn)
  obtain ⟨a, c, rfl, _⟩ := hv
  clear hq
  go_enter Tryz.func55, Tryz.ntmps55
  go_wp2_with fail
  refine HI.out.mono ?_
  rintro e w2 ⟨r, rfl, hb, hr, hr2⟩
  have HR := Lib.hid hr
  have HB := Lib.hid hb
  clear hr hb HI
  obtain ⟨b, hbb⟩ : ∃ b, decide (0 ≤ r) = b := ⟨_, rfl⟩
  have hb2 : decide (r ≥ 0) = b := hbb
  have HX : Hid (ctB f x n = b) := Lib.hid (by rw [← HR.out, hbb])
  clear HR
  go_wp2_with fail
  go_ret
  exact ⟨by rw [HX.out]; first | rfl | simp [hbb], HB.out⟩
/-- A tower can be spared if the others see all places that it sees. -/
def spB (g : List Int) (wd : Int) (T : List Tw) (rise far : Int) (n : Nat) (t : Tw) : Bool := (List.range n).all fun k => !seB g wd t (plI wd k) rise far || T.any fun u => u.id != t.id && seB g wd u (plI wd k) rise far
def spL (g : List Int) (wd : Int) (T : List Tw) (rise far : Int) (n : Nat) (L : List Tw) : List Int := (L.filter (spB g wd T rise far n)).map Tw.id
theorem mTo_pow {f : Nat → Bool} {N i : Nat} (hi : i < N) : mTo f N = 2 ^ i ↔ f i = true ∧ ∀ j, j < N → j ≠ i → f j = false := by
  constructor
  · intro h
    have hb : ∀ j, (mTo f N).testBit j = (2 ^ i).testBit j := fun j => by rw [h]
    simp only [mTo_bit, Nat.testBit_two_pow] at hb
    refine ⟨?_, fun j hj hne => ?_⟩
    · have := hb i; simpa [hi] using this
    · have := hb j
      have hne' : ¬ i = j := fun e => hne e.symm
      simpa [hj, hne'] using this
  · rintro ⟨h1, h2⟩
    apply Nat.eq_of_testBit_eq
    intro j
    rw [mTo_bit, Nat.testBit_two_pow]
    by_cases e : i = j
    · subst e; simp [hi, h1]
    · by_cases hj : j < N
      · simp [e, hj, h2 j hj (fun h => e h.symm)]
      · simp [e, hj]
theorem sp_is {g : List Int} {wd : Int} {T L : List Tw} {rise far : Int} {n : Nat} (hL : Ord L T) (hk : (T.map Tw.id).Nodup) {i : Nat} (hi : i < L.length) : (!ctB (wmN g wd L rise far) (2 ^ i) n) = spB g wd T rise far n (L.getD i .nil) := by
  rw [Bool.eq_iff_iff]
  unfold ctB spB
  simp only [Bool.not_eq_true', List.any_eq_false, List.all_eq_true, List.mem_range, beq_iff_eq, Bool.or_eq_true, List.any_eq_true, Bool.and_eq_true, bne_iff_ne]
  unfold wmN
  have hti : L.getD i .nil ∈ T := by rw [getD_tw hi]; exact hL.1.mem_iff.1 (List.getElem_mem _)
  constructor
  · intro h k hkn
    by_cases hs : seB g wd (L.getD i .nil) (plI wd k) rise far = true
    · right
      have h1 := h k hkn
      rw [mTo_pow hi] at h1
      have h2 : ∃ j, j < L.length ∧ j ≠ i ∧ seI g wd L (plI wd k) rise far j = true := by
        by_cases q : ∃ j, j < L.length ∧ j ≠ i ∧ seI g wd L (plI wd k) rise far j = true
        · exact q
        · refine absurd ⟨hs, fun j hj hne => ?_⟩ h1
          cases hb : seI g wd L (plI wd k) rise far j
          · rfl
          · exact absurd ⟨j, hj, hne, hb⟩ q
      obtain ⟨j, hj, hne, hb⟩ := h2
      refine ⟨L.getD j .nil, by rw [getD_tw hj]; exact hL.1.mem_iff.1 (List.getElem_mem _), fun e => ?_, hb⟩
      rcases Nat.lt_or_gt_of_ne hne with h3 | h3
      · have := ord_mono hL j i h3 hi; omega
      · have := ord_mono hL i j h3 hj; omega
    · left; simpa using hs
  · intro h k hkn h1
    rw [mTo_pow hi] at h1
    rcases h k hkn with h2 | ⟨u, hu, hne, hs⟩
    · have h3 : seB g wd (L.getD i .nil) (plI wd k) rise far = true := h1.1
      rw [h3] at h2; cases h2
    · obtain ⟨j, hj, rfl⟩ := List.getElem_of_mem (hL.1.mem_iff.2 hu)
      have hji : j ≠ i := by
        rintro rfl
        exact hne (by rw [getD_tw hj])
      have h3 := h1.2 j hj hji
      unfold seI at h3
      rw [getD_tw hj, hs] at h3
      cases h3
set_option maxRecDepth 100000 in
set_option maxHeartbeats 8000000 in
theorem Spare_ok (wd hg : Int) (o tv hv : Value) (g : List Int) (T : List Tw) (H : List Hz) (rise tick : Int) (w : World) (ho : INRow w o g) (hl : g.length ≤ 9223372036854775807) (ht : TwRow w tv T) (htl : T.length ≤ 9223372036854775807) (hh : HzRow w hv H) (hhl : H.length ≤ 9223372036854775807) (hcv : cvE wd hg g T H rise tick = 0) :
    Calls Tryz.prog 17 #[coV wd hg o tv hv, .int .i64 rise, .int .i64 tick] w fun e w' => ∃ v' L, e = .returned (.tuple #[v', .int .i64 0]) ∧ Below w.heap.size w w' ∧ Ord L T ∧ INRow w' v' (spL g wd T rise (faO H tick) g.length L) := by
  obtain ⟨hck, hri⟩ := cvE_ok hcv
  have HCV := Lib.hid (fun w' (h : Below w.heap.size w w') => by have := checkView_any wd hg o tv hv g T H rise tick w' (ho.keep h) hl (ht.keep h) htl (hh.keep h) hhl; rw [hcv] at this; exact this)
  have HWD := Lib.hid (fun w' (h : Below w.heap.size w w') => watched_any wd hg o tv hv g T H rise tick w' (ho.keep h) (ht.keep h) (hh.keep h) hck hri)
  obtain ⟨hm, hn12, _, _, hnd, _⟩ := ckE_ok hck
  have HOR := Lib.hid (fun w' (h : Below w.heap.size w w') => ordered_any tv T w' (ht.keep h) hn12 hnd)
  have hgm : g.length ≤ 2401 := by
    obtain ⟨a1, a2, a3, a4, a5, _⟩ := vmB_ok hm
    have h1 : wd * hg ≤ 49 * 49 := Int.mul_le_mul a2 a4 (by omega) (by omega)
    omega
  have HGM := Lib.hid hgm
  have HN12 := Lib.hid hn12
  have HND := Lib.hid hnd
  obtain ⟨oa, oc, rfl, _⟩ := ho.form
  obtain ⟨ta, tc, rfl, _⟩ := ht.form
  obtain ⟨W1, hW1, hb0, hs1, hrd⟩ := co_reads w wd hg (.slice oa g.length oc) (.slice ta T.length tc) hv
  have HW1 := Lib.hid hW1; have HB0 := Lib.hid hb0; have HRD := Lib.hid hrd
  obtain ⟨far, hfar⟩ : ∃ x, faO H tick = x := ⟨_, rfl⟩
  rw [hfar] at HWD ⊢
  clear hW1 hb0 hs1 hrd ho ht hh hl htl hhl hcv hck hri hm hn12 hnd hgm hfar
  unfold coV at HCV HWD
  unfold coV
  go_enter Tryz.func17, Tryz.ntmps17
  go_wp2_with fail
  rw [← HW1.out]
  obtain ⟨q0, q1, q2, q3, q4⟩ := HRD.out W1 (Below.refl _ _)
  go_wp2_with fail
  refine (HCV.out _ HB0.out).mono ?_
  rintro e w2 ⟨rfl, hb2⟩
  have HD2 := Lib.hid hb2
  have HB2 := Lib.hid (HB0.out.trans (hb2.mono HB0.out.size))
  clear hb2 q0 q1 q2 q3 q4
  obtain ⟨q0, q1, q2, q3, q4⟩ := HRD.out w2 HD2.out
  go_wp2_with fail
  refine (HOR.out _ HB2.out).mono ?_
  rintro e w3 ⟨V, L, rfl, hr, hO, hb3⟩
  have HR3 := Lib.hid hr
  have HORD := Lib.hid hO
  have HD3 := Lib.hid (HD2.out.trans (hb3.mono HD2.out.size))
  have HB3 := Lib.hid (HB2.out.trans (hb3.mono HB2.out.size))
  obtain ⟨Va, Vc, rfl, _⟩ := hr.form
  clear hr hO hb3 q0 q1 q2 q3 q4
  obtain ⟨q0, q1, q2, q3, q4⟩ := HRD.out w3 HD3.out
  go_wp2_with fail
  refine (HWD.out _ HB3.out).mono ?_
  rintro e w5 ⟨v5, L2, rfl, hb5, hO2, hown⟩
  obtain rfl : L2 = L := ord_unique hO2 HORD.out
  have hmr := MsRow.of_own hown
  have HMR := Lib.hid hmr
  have HR5 := Lib.hid (HR3.out.keep hb5)
  have HB5 := Lib.hid (HB3.out.trans (hb5.mono HB3.out.size))
  obtain ⟨va, vc, rfl, _⟩ := hmr
  have HL12 : Hid (L2.length ≤ 12) := Lib.hid (by have h1 := hO2.1.length_eq; have h2 := HN12.out; omega)
  have HSP := Lib.hid (fun i (hi : i < L2.length) => sp_is (g := g) (wd := wd) (rise := rise) (far := far) (n := g.length) HORD.out HND.out hi)
  have HCT := Lib.hid (fun (i : Nat) (q : Int) (hq : q = ((2 ^ i : Nat) : Int)) w' (h : Below w5.heap.size w5 w') => ContainsS_any (.slice va g.length vc) g.length (wmN g wd L2 rise far) (2 ^ i) q hq w' (HMR.out.keep h) (by have := HGM.out; omega))
  clear hO2 hown hb5 q0 q1 q2 q3 q4
  go_wp2_with fail
  go_loopw [11, 29] (fun v i wr => ∃ (k : Nat), k ≤ L2.length ∧ v = .int .u64 (mTo (fun i => !ctB (wmN g wd L2 rise far) (2 ^ i) g.length) k : Nat) ∧ i = .int .i64 k ∧ Hid (Below w5.heap.size w5 wr)) (fun _ i _ => L2.length - (intOf i).toNat)
  case atStart => exact ⟨0, Nat.zero_le _, rfl, rfl, Lib.hid (Below.refl _ _)⟩
  case round =>
    obtain ⟨k, hk, rfl, rfl, hB⟩ := hrel
    by_cases hkl : k < L2.length
    · have hki : (k : Int) < L2.length := by omega
      have hk0 : (0 : Int) ≤ k := by omega
      have hl12 := HL12.out
      have HON := Lib.hid (fun w' => only_any k (by omega) w')
      have HCK := Lib.hid (fun w' h => HCT.out k ((2 : Int) ^ k) (pow_cast k) w' h)
      have HST : Hid (mTo (fun i => !ctB (wmN g wd L2 rise far) (2 ^ i) g.length) (k + 1) = if (!ctB (wmN g wd L2 rise far) (2 ^ k) g.length) = true then mTo (fun i => !ctB (wmN g wd L2 rise far) (2 ^ i) g.length) k + 2 ^ k else mTo (fun i => !ctB (wmN g wd L2 rise far) (2 ^ i) g.length) k) := Lib.hid rfl
      have HOV := Lib.hid (or_add (k := k) (a := mTo (fun i => !ctB (wmN g wd L2 rise far) (2 ^ i) g.length) k) (by omega) (mTo_lt _ k))
      obtain ⟨cb, hcb⟩ : ∃ b, ctB (wmN g wd L2 rise far) (2 ^ k) g.length = b := ⟨_, rfl⟩
      rw [hcb] at HCK HST
      obtain ⟨m, hmm⟩ : ∃ m, mTo (fun i => !ctB (wmN g wd L2 rise far) (2 ^ i) g.length) k = m := ⟨_, rfl⟩
      rw [hmm] at HST HOV ⊢
      clear hcb hmm
      go_wp2_with fail
      refine (HON.out _).mono ?_
      rintro e w6 ⟨rfl, rfl⟩
      go_wp2_with fail
      refine (HCK.out _ hB.out).mono ?_
      rintro e w7 ⟨rfl, hb7⟩
      have HB7 := Lib.hid (hB.out.trans (hb7.mono hB.out.size))
      clear hb7
      cases cb
      · have HN : Hid (((mTo (fun i => !ctB (wmN g wd L2 rise far) (2 ^ i) g.length) (k + 1) : Nat) : Int) = ((m + 2 ^ k : Nat) : Int)) := Lib.hid (by rw [HST.out]; rfl)
        have hor := HOV.out
        go_wp2_with fail
        refine (HON.out _).mono ?_
        rintro e w8 ⟨rfl, rfl⟩
        go_wp2_with fail
        go_roundw
        case rel => exact ⟨k + 1, by omega, by rw [HN.out, Int.natCast_add, ← pow_cast], by go_num, HB7⟩
        case measure => simp [intOf]; omega
      · have HN : Hid (((mTo (fun i => !ctB (wmN g wd L2 rise far) (2 ^ i) g.length) (k + 1) : Nat) : Int) = (m : Int)) := Lib.hid (by rw [HST.out]; rfl)
        go_wp2_with fail
        go_roundw
        case rel => exact ⟨k + 1, by omega, by rw [HN.out], by go_num, HB7⟩
        case measure => simp [intOf]; omega
    · obtain rfl : k = L2.length := by omega
      have HBR := Lib.hid (HB5.out.trans (hB.out.mono HB5.out.size))
      have HID := Lib.hid (idsOf_any _ L2 (mTo (fun i => !ctB (wmN g wd L2 rise far) (2 ^ i) g.length) L2.length) wr (HR5.out.keep hB.out) HL12.out (Nat.lt_of_lt_of_le (mTo_lt _ _) (pow_bd HL12.out)))
      have HIS : Hid (idK L2 (mTo (fun i => !ctB (wmN g wd L2 rise far) (2 ^ i) g.length) L2.length).testBit L2.length = spL g wd T rise far g.length L2) := Lib.hid (by
        rw [idK_is (P := spB g wd T rise far g.length) (fun i hi => by rw [mTo_bit, HSP.out i hi]; simp [hi]) L2.length (Nat.le_refl _), List.take_length]; rfl)
      obtain ⟨m, hmm⟩ : ∃ m, mTo (fun i => !ctB (wmN g wd L2 rise far) (2 ^ i) g.length) L2.length = m := ⟨_, rfl⟩
      rw [hmm] at HID HIS ⊢
      clear hmm
      go_wp2_with fail
      refine HID.out.mono ?_
      rintro e w9 ⟨v9, rfl, hb9, hown⟩
      have HB9 := Lib.hid (HBR.out.trans (hb9.mono HBR.out.size))
      have HRW : Hid (INRow w9 v9 (spL g wd T rise far g.length L2)) := Lib.hid (by rw [← HIS.out]; exact INRow.of_own hown)
      clear hb9 hown HID
      go_wp2_with fail
      go_ret2
      exact ⟨_, L2, rfl, HB9.out, HORD.out, HRW.out⟩
set_option maxRecDepth 100000 in
set_option maxHeartbeats 8000000 in
theorem Spare_bad (wd hg : Int) (o tv hv : Value) (g : List Int) (T : List Tw) (H : List Hz) (rise tick : Int) (w : World) (ho : INRow w o g) (hl : g.length ≤ 9223372036854775807) (ht : TwRow w tv T) (htl : T.length ≤ 9223372036854775807) (hh : HzRow w hv H) (hhl : H.length ≤ 9223372036854775807) (hcv : cvE wd hg g T H rise tick ≠ 0) :
    Calls Tryz.prog 17 #[coV wd hg o tv hv, .int .i64 rise, .int .i64 tick] w fun e w' => e = .returned (.tuple #[.slice none 0 0, .int .i64 (cvE wd hg g T H rise tick)]) ∧ Below w.heap.size w w' := by
  have HCV := Lib.hid (fun w' (h : Below w.heap.size w w') => checkView_any wd hg o tv hv g T H rise tick w' (ho.keep h) hl (ht.keep h) htl (hh.keep h) hhl)
  obtain ⟨E, hE⟩ : ∃ x, cvE wd hg g T H rise tick = x := ⟨_, rfl⟩
  rw [hE] at HCV hcv ⊢
  have qe : (E != 0) = true := by simpa using hcv
  obtain ⟨W1, hW1, hb0, hs1, hrd⟩ := co_reads w wd hg o tv hv
  have HW1 := Lib.hid hW1; have HB0 := Lib.hid hb0; have HRD := Lib.hid hrd
  clear hW1 hb0 hs1 hrd ho ht hh hl htl hhl hcv hE
  unfold coV at HCV
  unfold coV
  go_enter Tryz.func17, Tryz.ntmps17
  go_wp2_with fail
  rw [← HW1.out]
  obtain ⟨q0, q1, q2, q3, q4⟩ := HRD.out W1 (Below.refl _ _)
  go_wp2_with fail
  refine (HCV.out _ HB0.out).mono ?_
  rintro e w2 ⟨rfl, hb2⟩
  have HB2 := Lib.hid (HB0.out.trans (hb2.mono HB0.out.size))
  clear hb2 q0 q1 q2 q3 q4
  go_wp2_with fail
  go_ret2
  exact ⟨rfl, HB2.out⟩
set_option maxRecDepth 100000 in
set_option maxHeartbeats 8000000 in
theorem Fewest_bad (wd hg : Int) (o tv hv : Value) (g : List Int) (T : List Tw) (H : List Hz) (rise tick : Int) (w : World) (ho : INRow w o g) (hl : g.length ≤ 9223372036854775807) (ht : TwRow w tv T) (htl : T.length ≤ 9223372036854775807) (hh : HzRow w hv H) (hhl : H.length ≤ 9223372036854775807) (hcv : cvE wd hg g T H rise tick ≠ 0) :
    Calls Tryz.prog 19 #[coV wd hg o tv hv, .int .i64 rise, .int .i64 tick] w fun e w' => e = .returned (.tuple #[.slice none 0 0, .int .i64 (cvE wd hg g T H rise tick)]) ∧ Below w.heap.size w w' := by
  have HCV := Lib.hid (fun w' (h : Below w.heap.size w w') => checkView_any wd hg o tv hv g T H rise tick w' (ho.keep h) hl (ht.keep h) htl (hh.keep h) hhl)
  obtain ⟨E, hE⟩ : ∃ x, cvE wd hg g T H rise tick = x := ⟨_, rfl⟩
  rw [hE] at HCV hcv ⊢
  have qe : (E != 0) = true := by simpa using hcv
  have HA : Hid (∀ W', Below (((w.alloc (.cells #[.int .i64 wd, .int .i64 hg, o, tv, hv] 28)).alloc (.cells #[.slice none 0 0] 22)).alloc (.cells #[.int .i64 0] 33)).heap.size (((w.alloc (.cells #[.int .i64 wd, .int .i64 hg, o, tv, hv] 28)).alloc (.cells #[.slice none 0 0] 22)).alloc (.cells #[.int .i64 0] 33)) W' → W'.cell? ⟨w.heap.size, 0, none⟩ = some (.int .i64 wd) ∧ W'.cell? ⟨w.heap.size, 1, none⟩ = some (.int .i64 hg) ∧ W'.cell? ⟨w.heap.size, 2, none⟩ = some o ∧ W'.cell? ⟨w.heap.size, 3, none⟩ = some tv ∧ W'.cell? ⟨w.heap.size, 4, none⟩ = some hv ∧ W'.heap[w.heap.size + 1]? = some (Obj.cells #[.slice none 0 0] 22 (0, 0)) ∧ W'.heap[w.heap.size + 1 + 1]? = some (Obj.cells #[.int .i64 0] 33 (0, 0)) ∧ Below w.heap.size w W') := Lib.hid (fun W' h => by
    obtain ⟨a, b, c, _, d⟩ := three_cells w _ _ _ _ _ _ h
    exact ⟨cellH a 0, cellH a 1, cellH a 2, cellH a 3, cellH a 4, b, c, d⟩)
  obtain ⟨W1, hW1⟩ : ∃ X, ((w.alloc (.cells #[.int .i64 wd, .int .i64 hg, o, tv, hv] 28)).alloc (.cells #[.slice none 0 0] 22)).alloc (.cells #[.int .i64 0] 33) = X := ⟨_, rfl⟩
  rw [hW1] at HA
  have HW1 := Lib.hid hW1
  have HRD := HA
  have HB0 := Lib.hid (HA.out W1 (Below.refl _ _)).2.2.2.2.2.2.2
  clear hW1 HA ho ht hh hl htl hhl hcv hE
  unfold coV at HCV
  unfold coV
  refine callsIn_wide.1 (?_ : CallsIn Fence.wide 7 _ _ _ _ _)
  refine callsIn_of_wp_marks Tryz.func19 rfl trivial ?_ rfl
  simp only [Tryz.ntmps19, List.size_toArray, List.length_cons, List.length_nil, Nat.reduceAdd, Nat.reduceSub, Array.replicate_succ, Array.replicate_zero, List.push_toArray, List.append_toArray, List.nil_append, List.cons_append]
  refine wpIn_wide.2 ?_
  go_wp2_with fail
  rw [HW1.out]
  obtain ⟨q0, q1, q2, q3, q4, _, _, _⟩ := HRD.out W1 (Below.refl _ _)
  go_wp2_with fail
  refine (HCV.out _ HB0.out).mono ?_
  rintro e w2 ⟨rfl, hb2⟩
  obtain ⟨_, _, _, _, _, hr1, hr2, hbw⟩ := HRD.out w2 hb2
  have HFIN : Hid (Below w.heap.size w ((w2.setCell ⟨w.heap.size + 1, 0, none⟩ (.slice none 0 0)).setCell ⟨w.heap.size + 1 + 1, 0, none⟩ (.int .i64 E)) ∧ ((w2.setCell ⟨w.heap.size + 1, 0, none⟩ (.slice none 0 0)).setCell ⟨w.heap.size + 1 + 1, 0, none⟩ (.int .i64 E)).heap[w.heap.size + 1]? = some (Obj.cells #[.slice none 0 0] 22 (0, 0)) ∧ ((w2.setCell ⟨w.heap.size + 1, 0, none⟩ (.slice none 0 0)).setCell ⟨w.heap.size + 1 + 1, 0, none⟩ (.int .i64 E)).heap[w.heap.size + 1 + 1]? = some (Obj.cells #[.int .i64 E] 33 (0, 0))) := Lib.hid
    ⟨(hbw.setCell (p := ⟨w.heap.size + 1, 0, none⟩) (by simp) _).setCell (p := ⟨w.heap.size + 1 + 1, 0, none⟩) (by simp; omega) _, (heap_other _ _ _ _ _ (by omega)).trans (heap_same hr1 0 _), heap_same ((heap_other _ _ _ _ _ (by omega)).trans hr2) 0 _⟩
  have x0 := cellH hr1 0
  have y0 := cellH hr2 0
  have xf := freeH hr1 0
  have yf := freeH hr2 0
  simp at x0 y0
  have hne : w.heap.size + 1 + 1 ≠ w.heap.size + 1 := by omega
  clear hb2 hr1 hr2 hbw q0 q1 q2 q3 q4
  go_wp2_with fail
  try rw [Exit.noGoto_ret]
  exact leaves_marks5 (F := Fence.wide) (n := 7) w.heap.size [] _ (by simp) (fun D' hD' => by simp at hD') (fun W' hk hb' => ⟨_, fw_results rfl rfl (cellH (hk.2 _ _ _ _ HFIN.out.2.1) 0) (cellH (hk.2 _ _ _ _ HFIN.out.2.2) 0), rfl, HFIN.out.1.trans hb'⟩)
end Go.Proofs.YtnacgogcbbpjmaaGreat
