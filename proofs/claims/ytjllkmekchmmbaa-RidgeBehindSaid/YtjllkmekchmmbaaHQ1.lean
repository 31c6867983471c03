/- Covered of package ridge. -/
import Derived.Test.YtjllkmekchmmbaaHP3
import Derived.Test.YtjllkmekchmmbaaHQ0
set_option linter.unusedVariables false
set_option linter.unusedSimpArgs false
namespace Go.Proofs.Ytjllkmekchmmbaa
open Go Go.RowKit

/-- The first places that at least so many towers see. -/
def cvL (tw : Int) (g : List Int) (wd : Int) (L : List Tw) (rise far : Int) : Nat → List Pl
  | 0 => []
  | k + 1 => if tw ≤ (onesN (wmN g wd L rise far k) : Nat) then cvL tw g wd L rise far k ++ [plI wd k] else cvL tw g wd L rise far k
theorem cvL_len (tw : Int) (g : List Int) (wd : Int) (L : List Tw) (rise far : Int) : ∀ k, (cvL tw g wd L rise far k).length ≤ k
  | 0 => by simp [cvL]
  | k + 1 => by
    have := cvL_len tw g wd L rise far k
    rw [cvL]; split
    · simp; omega
    · omega
set_option maxRecDepth 100000 in
set_option maxHeartbeats 8000000 in
theorem Covered_ok (wd hg : Int) (o tv hv : Value) (g : List Int) (T : List Tw) (H : List Hz) (rise tick tw : Int) (w : World) (ho : INRow w o g) (hl : g.length ≤ 9223372036854775807) (ht : TwRow w tv T) (htl : T.length ≤ 9223372036854775807) (hh : HzRow w hv H) (hhl : H.length ≤ 9223372036854775807) (hcv : cvE wd hg g T H rise tick = 0) (htw : wiB tw 1 12 = true) :
    Calls Try.prog 36 #[coV wd hg o tv hv, .int .i64 rise, .int .i64 tick, .int .i64 tw] w fun e w' => ∃ v' L, e = .returned (.tuple #[v', .int .i64 0]) ∧ Below w.heap.size w w' ∧ Ord L T ∧ w'.ownsRow w.heap.size 30 2 v' (cvL tw g wd L rise (faO H tick) g.length).length ((cvL tw g wd L rise (faO H tick) g.length).flatMap encP) := by
  obtain ⟨hck, hri⟩ := cvE_ok hcv
  have HCV := Lib.hid (fun w' (h : Below w.heap.size w w') => by have := checkView_any wd hg o tv hv g T H rise tick w' (ho.keep h) hl (ht.keep h) htl (hh.keep h) hhl; rw [hcv] at this; exact this)
  have HWI : Hid (∀ w', Calls Try.prog 52 #[.int .i64 tw, .int .i64 1, .int .i64 12] w' fun e w'' => e = .returned (.bool true) ∧ w'' = w') := Lib.hid (fun w' => by have := within_any tw 1 12 w'; rw [htw] at this; exact this)
  have HWD := Lib.hid (fun w' (h : Below w.heap.size w w') => watched_any wd hg o tv hv g T H rise tick w' (ho.keep h) (ht.keep h) (hh.keep h) hck hri)
  obtain ⟨hm, hn12, _⟩ := ckE_ok hck
  have HM := Lib.hid hm
  have hgm : g.length ≤ 2401 := by
    obtain ⟨a1, a2, a3, a4, a5, _⟩ := vmB_ok hm
    have h1 : wd * hg ≤ 49 * 49 := Int.mul_le_mul a2 a4 (by omega) (by omega)
    omega
  obtain ⟨oa, oc, rfl, _⟩ := ho.form
  obtain ⟨W1, hW1, hb0, hs1, hrd⟩ := co_reads w wd hg (.slice oa g.length oc) tv hv
  have HW1 := Lib.hid hW1; have HB0 := Lib.hid hb0; have HRD := Lib.hid hrd
  have hw9 : 1 ≤ wd ∧ wd ≤ 49 := by obtain ⟨a1, a2, _⟩ := vmB_ok hm; exact ⟨a1, a2⟩
  have HPA := Lib.hid (fun (k : Nat) (hk : k ≤ 2401) w' => placeAt_any wd hg (.slice oa g.length oc) k w' hw9 hk ⟨_, _, _, rfl⟩)
  have HN12 := Lib.hid hn12
  clear hW1 hb0 hs1 hrd ho ht hh hck hm hri hw9 hl htl hhl hcv htw
  obtain ⟨i0, hi0, hz0, hz1, hz2⟩ := info_parts info_pl3
  obtain ⟨far, hfar⟩ : ∃ x, faO H tick = x := ⟨_, rfl⟩
  rw [hfar] at HWD ⊢
  clear hfar
  unfold coV at HWD HCV
  unfold coV
  go_enter Try.func36, Try.ntmps36
  go_wp2_with fail
  rw [← HW1.out]
  obtain ⟨q0, q1, q2, q3, q4⟩ := HRD.out W1 (Below.refl _ _)
  go_wp2_with fail
  refine (HCV.out _ HB0.out).mono ?_
  rintro e w2 ⟨rfl, hb2⟩
  have HD2 := Lib.hid hb2
  have HB2 := Lib.hid (HB0.out.trans (hb2.mono HB0.out.size))
  clear hb2 q0 q1 q2 q3 q4
  go_wp2_with fail
  refine (HWI.out _).mono ?_
  rintro e w3 ⟨rfl, rfl⟩
  obtain ⟨q0, q1, q2, q3, q4⟩ := HRD.out w3 HD2.out
  go_wp2_with fail
  refine (HWD.out _ HB2.out).mono ?_
  rintro e w5 ⟨v5, L, rfl, hb5, hO, hown⟩
  have HORD := Lib.hid hO
  have HD5 := Lib.hid (HD2.out.trans (hb5.mono HD2.out.size))
  have HB5 := Lib.hid (HB2.out.trans (hb5.mono HB2.out.size))
  have HMB : Hid (∀ i, wmN g wd L rise far i < 4096) := Lib.hid (fun i => Nat.lt_of_lt_of_le (mTo_lt _ _) (pow_bd (by have := hO.1.length_eq; omega)))
  have hrow : ∃ a c, v5 = .slice a g.length c ∧ ∀ i, i < g.length → ∃ b off, a = some ⟨b, off, none⟩ ∧ b < w5.heap.size ∧ w5.cell? ⟨b, off + i, none⟩ = some (.int .u64 (wmN g wd L rise far i : Nat)) := by
    have h1 : w5.ownsRow w3.heap.size 122 1 v5 (wdL g wd L rise far g.length).length (wdL g wd L rise far g.length) := by rw [wdL_len]; exact hown
    rcases own_row1 h1 with ⟨rfl, h2⟩ | ⟨b, c, h2, _, _, h4, h5⟩
    · have h3 : g.length = 0 := by rw [← wdL_len g wd L rise far g.length, h2]; rfl
      rw [h3]
      exact ⟨_, _, rfl, fun i hi => by omega⟩
    · rw [wdL_len] at h2
      exact ⟨_, _, h2, fun i hi => ⟨b, 0, rfl, h4, by rw [Nat.zero_add]; exact h5 i _ (wdL_get hi)⟩⟩
  obtain ⟨pa, pc, rfl, hpc⟩ := hrow
  have HPC := Lib.hid hpc
  clear hb5 hO hown hpc q0 q1 q2 q3 q4
  go_wp2_with fail
  go_loopw [11, 29] (fun v i wr => ∃ (k : Nat), k ≤ g.length ∧ i = .int .i64 k ∧ Hid (Below w5.heap.size w5 wr) ∧ Hid (wr.ownsRow w5.heap.size 30 2 v (cvL tw g wd L rise far k).length ((cvL tw g wd L rise far k).flatMap encP))) (fun _ i _ => g.length - (intOf i).toNat)
  case atStart => exact ⟨0, Nat.zero_le _, rfl, Lib.hid (Below.refl _ _), Lib.hid (World.ownsRow_nil _ _ _ _)⟩
  case round =>
    obtain ⟨k, hk, rfl, hB, hO⟩ := hrel
    have HDR := Lib.hid (HD5.out.trans (hB.out.mono HD5.out.size))
    have HBR := Lib.hid (HB5.out.trans (hB.out.mono HB5.out.size))
    by_cases hkl : k < g.length
    · obtain ⟨pb, po, rfl, hpb, c0⟩ := HPC.out k hkl
      have hki : (k : Int) < g.length := by omega
      have hk0 : (0 : Int) ≤ k := by omega
      have e0 := (hB.out.cell (p := ⟨pb, _, none⟩) hpb).trans c0
      have HLN := Lib.hid (cvL_len tw g wd L rise far k)
      obtain ⟨q0, q1, q2, q3, q4⟩ := HRD.out _ HDR.out
      have HOC := Lib.hid (fun w' => OnesCount_any (wmN g wd L rise far k) (HMB.out k) w')
      obtain ⟨mm, hmm⟩ : ∃ m, wmN g wd L rise far k = m := ⟨_, rfl⟩
      have HCS : Hid (cvL tw g wd L rise far (k + 1) = if tw ≤ (onesN mm : Nat) then cvL tw g wd L rise far k ++ [plI wd k] else cvL tw g wd L rise far k) := Lib.hid (by rw [← hmm]; rfl)
      rw [hmm] at e0 HOC
      clear hmm c0 hpb
      go_wp2_with fail
      refine (HOC.out _).mono ?_
      rintro e w6 ⟨rfl, rfl⟩
      obtain ⟨on, hon⟩ : ∃ n : Int, ((onesN mm : Nat) : Int) = n := ⟨_, rfl⟩
      rw [hon] at HCS ⊢
      clear hon
      by_cases hz : tw ≤ on
      · have HN : Hid (cvL tw g wd L rise far (k + 1) = cvL tw g wd L rise far k ++ [plI wd k]) := Lib.hid (by rw [HCS.out, if_pos hz])
        have HPK := Lib.hid (HPA.out k (by omega))
        obtain ⟨⟨x, y⟩, hxy⟩ : ∃ q, plI wd k = q := ⟨_, rfl⟩
        rw [hxy] at HN HPK
        obtain ⟨dl, hdl⟩ : ∃ l, cvL tw g wd L rise far k = l := ⟨_, rfl⟩
        rw [hdl] at HN hO HLN
        have hlen := HLN.out
        have h63 : dl.length + 1 ≤ maxLen := by unfold maxLen; omega
        have hby : (dl.length + 1) * 16 ≤ 140737488355328 := by omega
        clear hxy hdl hlen HCS
        go_wp2_with fail
        refine (HPK.out _).mono ?_
        rintro e w7 ⟨rfl, hb6⟩
        have HB6 := Lib.hid (hB.out.trans (hb6.mono hB.out.size))
        have hO6 := own_below hO.out hb6
        have hbase : w5.heap.size ≤ w7.heap.size := HB6.out.size
        clear hb6 q0 q1 q2 q3 q4 e0
        go_wp2_with (at_builtin; refine wpList_append_own _ rfl _ _ 42 rfl w5.heap.size 30 i0 (.agg #[.int .i64 0, .int .i64 0]) 2 16 Try.underlying42 hi0 hz0 hz1 hz2 rfl (by decide) _ _ _ rfl (World.ownsRow.alloc hO6 _) ⟨w7.heap.size, 0, none⟩ 1 1 [.int .i64 x, .int .i64 y] rfl rfl (fun j u h => cell_two' _ _ _ _ j u h) (by simp [Value.oneCell']) h63 hby (by simp; omega) ?_; intro v' w8 hown' hgrow _)
        have HB7 : Hid (Below w5.heap.size w5 w8) := Lib.hid ((HB6.out.alloc hbase _).grown hgrow (by simp; omega) (fun j e => (World.ownsRow.lt hO6 j e).1))
        have HO7 : Hid (w8.ownsRow w5.heap.size 30 2 v' (cvL tw g wd L rise far (k + 1)).length ((cvL tw g wd L rise far (k + 1)).flatMap encP)) := Lib.hid (by
          rw [HN.out, List.length_append, List.flatMap_append]; exact hown')
        clear hown' hgrow hO6
        go_wp2_with fail
        go_roundw
        case rel => exact ⟨k + 1, by omega, by go_num, HB7, HO7⟩
        case measure => simp [intOf]; omega
      · have HN : Hid (cvL tw g wd L rise far (k + 1) = cvL tw g wd L rise far k) := Lib.hid (by rw [HCS.out, if_neg hz])
        have hO9 : Hid (w6.ownsRow w5.heap.size 30 2 u11 (cvL tw g wd L rise far (k + 1)).length ((cvL tw g wd L rise far (k + 1)).flatMap encP)) := Lib.hid (by rw [HN.out]; exact hO.out)
        go_wp2_with fail
        go_roundw
        case rel => exact ⟨k + 1, by omega, by go_num, hB, hO9⟩
        case measure => simp [intOf]; omega
    · obtain rfl : k = g.length := by omega
      go_wp2_with fail
      go_ret2
      exact ⟨_, L, rfl, HBR.out, HORD.out, own_base hO.out HB5.out.size⟩
end Go.Proofs.Ytjllkmekchmmbaa
