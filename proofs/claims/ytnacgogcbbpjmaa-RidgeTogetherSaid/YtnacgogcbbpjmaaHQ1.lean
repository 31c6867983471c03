/- Covered of package ridge. -/
import Derived.Test.YtnacgogcbbpjmaaHP2
import Derived.Test.YtnacgogcbbpjmaaHQ0
import Derived.Test.YtnacgogcbbpjmaaHP4
import Derived.Test.YtnacgogcbbpjmaaHT0
set_option linter.unusedVariables false
set_option linter.unusedSimpArgs false
namespace Go.Proofs.Ytnacgogcbbpjmaa
open Go Go.RowKit

/-- The first places that at least so many towers see. -/
def cvL (tw : Int) (g : List Int) (wd : Int) (L : List Tw) (rise far : Int) : Nat → List Pl
  | 0 => []
  | k + 1 => if tw ≤ (onesN (wmN g wd L rise far k) : Nat) then cvL tw g wd L rise far k ++ [plI wd k] else cvL tw g wd L rise far k
theorem cvL_len (tw : Int) (g : List Int) (wd : Int) (L : List Tw) (rise far : Int) : ∀ k, (cvL tw g wd L rise far k).length ≤ k
  | 0 => by simp [cvL]
  | k + 1 => by
    have := cvL_len tw g wd L rise far k
    rw [cvL]; split
    · simp; omega
    · omega
set_option maxRecDepth 100000 in
set_option maxHeartbeats 8000000 in
theorem Covered_ok (wd hg : Int) (o tv hv : Value) (g : List Int) (T : List Tw) (H : List Hz) (rise tick tw : Int) (w : World) (ho : INRow w o g) (hl : g.length ≤ 9223372036854775807) (ht : TwRow w tv T) (htl : T.length ≤ 9223372036854775807) (hh : HzRow w hv H) (hhl : H.length ≤ 9223372036854775807) (hcv : cvE wd hg g T H rise tick = 0) (htw : wiB tw 1 12 = true) :
    Calls Try.prog 9 #[coV wd hg o tv hv, .int .i64 rise, .int .i64 tick, .int .i64 tw] w fun e w' => ∃ v' L, e = .returned (.tuple #[v', .int .i64 0]) ∧ Below w.heap.size w w' ∧ Ord L T ∧ w'.ownsRow w.heap.size 32 2 v' (cvL tw g wd L rise (faO H tick) g.length).length ((cvL tw g wd L rise (faO H tick) g.length).flatMap encP) := by
  obtain ⟨hck, hri⟩ := cvE_ok hcv
  have HCV := Lib.hid (fun w' (h : Below w.heap.size w w') => by have := checkView_any wd hg o tv hv g T H rise tick w' (ho.keep h) hl (ht.keep h) htl (hh.keep h) hhl; rw [hcv] at this; exact this)
  have HWI : Hid (∀ w', Calls Try.prog 36 #[.int .i64 tw, .int .i64 1, .int .i64 12] w' fun e w'' => e = .returned (.bool true) ∧ w'' = w') := Lib.hid (fun w' => by have := within_any tw 1 12 w'; rw [htw] at this; exact this)
  have HWD := Lib.hid (fun w' (h : Below w.heap.size w w') => watched_any wd hg o tv hv g T H rise tick w' (ho.keep h) (ht.keep h) (hh.keep h) hck hri)
  obtain ⟨hm, hn12, _⟩ := ckE_ok hck
  have HM := Lib.hid hm
  have hgm : g.length ≤ 2401 := by
    obtain ⟨a1, a2, a3, a4, a5, _⟩ := vmB_ok hm
    have h1 : wd * hg ≤ 49 * 49 := Int.mul_le_mul a2 a4 (by omega) (by omega)
    omega
  obtain ⟨oa, oc, rfl, _⟩ := ho.form
  obtain ⟨W1, hW1, hb0, hs1, hrd⟩ := co_reads w wd hg (.slice oa g.length oc) tv hv
  have HW1 := Lib.hid hW1; have HB0 := Lib.hid hb0; have HRD := Lib.hid hrd
  have hw9 : 1 ≤ wd ∧ wd ≤ 49 := by obtain ⟨a1, a2, _⟩ := vmB_ok hm; exact ⟨a1, a2⟩
  have HPA := Lib.hid (fun (k : Nat) (hk : k ≤ 2401) w' => placeAt_any wd hg (.slice oa g.length oc) k w' hw9 hk ⟨_, _, _, rfl⟩)
  have HN12 := Lib.hid hn12
  clear hW1 hb0 hs1 hrd ho ht hh hck hm hri hw9 hl htl hhl hcv htw
  obtain ⟨i0, hi0, hz0, hz1, hz2⟩ := info_parts info_pl3
  obtain ⟨far, hfar⟩ : ∃ x, faO H tick = x := ⟨_, rfl⟩
  rw [hfar] at HWD ⊢
  clear hfar
  unfold coV at HWD HCV
  unfold coV
  go_enter Try.func9, Try.ntmps9
  go_wp2_with fail
  rw [← HW1.out]
  obtain ⟨q0, q1, q2, q3, q4⟩ := HRD.out W1 (Below.refl _ _)
  go_wp2_with fail
  refine (HCV.out _ HB0.out).mono ?_
  rintro e w2 ⟨rfl, hb2⟩
  have HD2 := Lib.hid hb2
  have HB2 := Lib.hid (HB0.out.trans (hb2.mono HB0.out.size))
  clear hb2 q0 q1 q2 q3 q4
  go_wp2_with fail
  refine (HWI.out _).mono ?_
  rintro e w3 ⟨rfl, rfl⟩
  obtain ⟨q0, q1, q2, q3, q4⟩ := HRD.out w3 HD2.out
  go_wp2_with fail
  refine (HWD.out _ HB2.out).mono ?_
  rintro e w5 ⟨v5, L, rfl, hb5, hO, hown⟩
  have HORD := Lib.hid hO
  have HD5 := Lib.hid (HD2.out.trans (hb5.mono HD2.out.size))
  have HB5 := Lib.hid (HB2.out.trans (hb5.mono HB2.out.size))
  have HMB : Hid (∀ i, wmN g wd L rise far i < 4096) := Lib.hid (fun i => Nat.lt_of_lt_of_le (mTo_lt _ _) (pow_bd (by have := hO.1.length_eq; omega)))
  have hrow : ∃ a c, v5 = .slice a g.length c ∧ ∀ i, i < g.length → ∃ b off, a = some ⟨b, off, none⟩ ∧ b < w5.heap.size ∧ w5.cell? ⟨b, off + i, none⟩ = some (.int .u64 (wmN g wd L rise far i : Nat)) := by
    have h1 : w5.ownsRow w3.heap.size 87 1 v5 (wdL g wd L rise far g.length).length (wdL g wd L rise far g.length) := by rw [wdL_len]; exact hown
    rcases own_row1 h1 with ⟨rfl, h2⟩ | ⟨b, c, h2, _, _, h4, h5⟩
    · have h3 : g.length = 0 := by rw [← wdL_len g wd L rise far g.length, h2]; rfl
      rw [h3]
      exact ⟨_, _, rfl, fun i hi => by omega⟩
    · rw [wdL_len] at h2
      exact ⟨_, _, h2, fun i hi => ⟨b, 0, rfl, h4, by rw [Nat.zero_add]; exact h5 i _ (wdL_get hi)⟩⟩
  obtain ⟨pa, pc, rfl, hpc⟩ := hrow
  have HPC := Lib.hid hpc
  clear hb5 hO hown hpc q0 q1 q2 q3 q4
  go_wp2_with fail
  go_loopw [11, 29] (fun v i wr => ∃ (k : Nat), k ≤ g.length ∧ i = .int .i64 k ∧ Hid (Below w5.heap.size w5 wr) ∧ Hid (wr.ownsRow w5.heap.size 32 2 v (cvL tw g wd L rise far k).length ((cvL tw g wd L rise far k).flatMap encP))) (fun _ i _ => g.length - (intOf i).toNat)
  case atStart => exact ⟨0, Nat.zero_le _, rfl, Lib.hid (Below.refl _ _), Lib.hid (World.ownsRow_nil _ _ _ _)⟩
  case round =>
    obtain ⟨k, hk, rfl, hB, hO⟩ := hrel
    have HDR := Lib.hid (HD5.out.trans (hB.out.mono HD5.out.size))
    have HBR := Lib.hid (HB5.out.trans (hB.out.mono HB5.out.size))
    by_cases hkl : k < g.length
    · obtain ⟨pb, po, rfl, hpb, c0⟩ := HPC.out k hkl
      have hki : (k : Int) < g.length := by omega
      have hk0 : (0 : Int) ≤ k := by omega
      have e0 := (hB.out.cell (p := ⟨pb, _, none⟩) hpb).trans c0
      have HLN := Lib.hid (cvL_len tw g wd L rise far k)
      obtain ⟨q0, q1, q2, q3, q4⟩ := HRD.out _ HDR.out
      have HOC := Lib.hid (fun w' => OnesCount_any (wmN g wd L rise far k) (HMB.out k) w')
      obtain ⟨mm, hmm⟩ : ∃ m, wmN g wd L rise far k = m := ⟨_, rfl⟩
      have HCS : Hid (cvL tw g wd L rise far (k + 1) = if tw ≤ (onesN mm : Nat) then cvL tw g wd L rise far k ++ [plI wd k] else cvL tw g wd L rise far k) := Lib.hid (by rw [← hmm]; rfl)
      rw [hmm] at e0 HOC
      clear hmm c0 hpb
      go_wp2_with fail
      refine (HOC.out _).mono ?_
      rintro e w6 ⟨rfl, rfl⟩
      obtain ⟨on, hon⟩ : ∃ n : Int, ((onesN mm : Nat) : Int) = n := ⟨_, rfl⟩
      rw [hon] at HCS ⊢
      clear hon
      by_cases hz : tw ≤ on
      · have HN : Hid (cvL tw g wd L rise far (k + 1) = cvL tw g wd L rise far k ++ [plI wd k]) := Lib.hid (by rw [HCS.out, if_pos hz])
        have HPK := Lib.hid (HPA.out k (by omega))
        obtain ⟨⟨x, y⟩, hxy⟩ : ∃ q, plI wd k = q := ⟨_, rfl⟩
        rw [hxy] at HN HPK
        obtain ⟨dl, hdl⟩ : ∃ l, cvL tw g wd L rise far k = l := ⟨_, rfl⟩
        rw [hdl] at HN hO HLN
        have hlen := HLN.out
        have h63 : dl.length + 1 ≤ maxLen := by unfold maxLen; omega
        have hby : (dl.length + 1) * 16 ≤ 140737488355328 := by omega
        clear hxy hdl hlen HCS
        go_wp2_with fail
        refine (HPK.out _).mono ?_
        rintro e w7 ⟨rfl, hb6⟩
        have HB6 := Lib.hid (hB.out.trans (hb6.mono hB.out.size))
        have hO6 := own_below hO.out hb6
        have hbase : w5.heap.size ≤ w7.heap.size := HB6.out.size
        clear hb6 q0 q1 q2 q3 q4 e0
        go_wp2_with (at_builtin; refine wpList_append_own _ rfl _ _ 40 rfl w5.heap.size 32 i0 (.agg #[.int .i64 0, .int .i64 0]) 2 16 Try.underlying40 hi0 hz0 hz1 hz2 rfl (by decide) _ _ _ rfl (World.ownsRow.alloc hO6 _) ⟨w7.heap.size, 0, none⟩ 1 1 [.int .i64 x, .int .i64 y] rfl rfl (fun j u h => cell_two' _ _ _ _ j u h) (by simp [Value.oneCell']) h63 hby (by simp; omega) ?_; intro v' w8 hown' hgrow _)
        have HB7 : Hid (Below w5.heap.size w5 w8) := Lib.hid ((HB6.out.alloc hbase _).grown hgrow (by simp; omega) (fun j e => (World.ownsRow.lt hO6 j e).1))
        have HO7 : Hid (w8.ownsRow w5.heap.size 32 2 v' (cvL tw g wd L rise far (k + 1)).length ((cvL tw g wd L rise far (k + 1)).flatMap encP)) := Lib.hid (by
          rw [HN.out, List.length_append, List.flatMap_append]; exact hown')
        clear hown' hgrow hO6
        go_wp2_with fail
        go_roundw
        case rel => exact ⟨k + 1, by omega, by go_num, HB7, HO7⟩
        case measure => simp [intOf]; omega
      · have HN : Hid (cvL tw g wd L rise far (k + 1) = cvL tw g wd L rise far k) := Lib.hid (by rw [HCS.out, if_neg hz])
        have hO9 : Hid (w6.ownsRow w5.heap.size 32 2 u11 (cvL tw g wd L rise far (k + 1)).length ((cvL tw g wd L rise far (k + 1)).flatMap encP)) := Lib.hid (by rw [HN.out]; exact hO.out)
        go_wp2_with fail
        go_roundw
        case rel => exact ⟨k + 1, by omega, by go_num, hB, hO9⟩
        case measure => simp [intOf]; omega
    · obtain rfl : k = g.length := by omega
      go_wp2_with fail
      go_ret2
      exact ⟨_, L, rfl, HBR.out, HORD.out, own_base hO.out HB5.out.size⟩
end Go.Proofs.Ytnacgogcbbpjmaa

/-! A further tower: what it covers more. -/
set_option linter.unusedVariables false
set_option linter.unusedSimpArgs false
namespace Go.Proofs.Ytnacgogcbbpjmaa
open Go Go.RowKit

/-- The first places that a tower sees. -/
def ccL (g : List Int) (wd : Int) (T : List Tw) (rise far : Int) : Nat → List Pl
  | 0 => []
  | k + 1 => if (T.any fun t => seB g wd t (plI wd k) rise far) = true then ccL g wd T rise far k ++ [plI wd k] else ccL g wd T rise far k
theorem ccL_len (g : List Int) (wd : Int) (T : List Tw) (rise far : Int) : ∀ k, (ccL g wd T rise far k).length ≤ k
  | 0 => by simp [ccL]
  | k + 1 => by
    have := ccL_len g wd T rise far k
    rw [ccL]; split
    · simp; omega
    · omega
theorem cvL_one {g : List Int} {wd : Int} {L T : List Tw} {rise far : Int} (h : Ord L T) (hn : T.length ≤ 12) : ∀ k, cvL 1 g wd L rise far k = ccL g wd T rise far k
  | 0 => rfl
  | k + 1 => by
    have hlt : wmN g wd L rise far k < 4096 := Nat.lt_of_lt_of_le (mTo_lt _ _) (pow_bd (by have := h.1.length_eq; omega))
    have h1 := (oc_is hlt).2
    have h2 := wmN_zero (g := g) (wd := wd) (rise := rise) (far := far) (i := k) h
    rw [cvL, ccL, cvL_one h hn k]
    by_cases hz : wmN g wd L rise far k = 0
    · rw [if_neg (by omega), if_neg (h2.1 hz)]
    · rw [if_pos (by omega), if_pos (by by_cases q : (T.any fun t => seB g wd t (plI wd k) rise far) = true; exact q; exact absurd (h2.2 q) hz)]
theorem seB_id (g : List Int) (wd : Int) (i j x y h : Int) (p : Pl) (rise far : Int) : seB g wd ⟨i, x, y, h⟩ p rise far = seB g wd ⟨j, x, y, h⟩ p rise far := rfl
theorem ccL_more (g : List Int) (wd : Int) (T : List Tw) (i x y h rise far : Int) : ∀ k, (ccL g wd (T ++ [⟨i, x, y, h⟩]) rise far k).length = (ccL g wd T rise far k).length + gnC g wd ⟨0, x, y, h⟩ rise far (nsL g wd T rise far k)
  | 0 => by simp [ccL, nsL, gnC]
  | k + 1 => by
    have ih := ccL_more g wd T i x y h rise far k
    rw [ccL, ccL, nsL, List.any_append]
    by_cases q : (T.any fun t => seB g wd t (plI wd k) rise far) = true
    · rw [if_pos q, if_pos q, q, Bool.true_or, if_pos rfl, List.length_append, List.length_append, ih]
      simp only [List.length_singleton]; omega
    · have q2 : (T.any fun t => seB g wd t (plI wd k) rise far) = false := by simpa using q
      rw [if_neg q, if_neg q, q2, Bool.false_or]
      unfold gnC
      rw [List.countP_append, List.countP_singleton]
      have e : ([(⟨i, x, y, h⟩ : Tw)].any fun t => seB g wd t (plI wd k) rise far) = seB g wd ⟨0, x, y, h⟩ (plI wd k) rise far := by simp [List.any]; rfl
      rw [e]
      unfold gnC at ih
      by_cases q3 : seB g wd ⟨0, x, y, h⟩ (plI wd k) rise far = true
      · rw [if_pos q3, if_pos q3, List.length_append, ih]; simp only [List.length_singleton]; omega
      · rw [if_neg q3, if_neg q3, ih]; omega
theorem be_facts {g : List Int} {wd : Int} {T : List Tw} {height rise far : Int} {k : Nat} (hk : k < g.length) (hb : beK g wd T height rise far = k) :
    beN g wd T height rise far = gnC g wd ⟨0, (plI wd k).1, (plI wd k).2, height⟩ rise far (nsL g wd T rise far g.length) ∧ ∀ i, i < g.length → (gnC g wd ⟨0, (plI wd i).1, (plI wd i).2, height⟩ rise far (nsL g wd T rise far g.length) : Int) ≤ beN g wd T height rise far := by
  have hget : ∀ i, i < g.length → (gnL g wd height rise far (nsL g wd T rise far g.length) g.length).getD i 0 = gnC g wd ⟨0, (plI wd i).1, (plI wd i).2, height⟩ rise far (nsL g wd T rise far g.length) := fun i hi => by
    unfold gnL
    rw [List.getD_eq_getElem?_getD, List.getElem?_map, List.getElem?_range hi]; rfl
  have hGL := gnL_len g wd height rise far (nsL g wd T rise far g.length) g.length
  have hmem : beN g wd T height rise far ∈ gnL g wd height rise far (nsL g wd T rise far g.length) g.length := fold_mem _ 0 (fun y hy => by unfold gnL at hy; obtain ⟨i, _, rfl⟩ := List.mem_map.1 hy; exact Int.natCast_nonneg _) (fun h => by rw [h] at hGL; simp at hGL; omega)
  obtain ⟨m, hm1, hm2, hm3⟩ := fxF_in (k := 0) hmem
  unfold beK at hb
  rw [hm2, Nat.zero_add] at hb
  obtain rfl : m = k := by omega
  refine ⟨by rw [← hm3, hget m hk], fun i hi => ?_⟩
  have h1 := (fold_max_le (l := gnL g wd height rise far (nsL g wd T rise far g.length) g.length) (a := 0) (r := beN g wd T height rise far)).1 (Int.le_refl _)
  refine h1.2 _ ?_
  rw [← hget i hi, List.getD_eq_getElem?_getD, List.getElem?_eq_getElem (by rw [hGL]; exact hi)]
  exact List.getElem_mem _
theorem tgE_of {wd hg : Int} : ∀ {l s : List Tw}, (∀ t ∈ l, okT wd hg t) → (l.map Tw.id).Nodup → (∀ t ∈ l, ∀ u ∈ s, u.id ≠ t.id) → tgE wd hg s l = 0
  | [], _, _, _, _ => rfl
  | t :: l, s, h1, h2, h3 => by
    have h4 := h1 t (by simp)
    rw [List.map_cons, List.nodup_cons] at h2
    have hno : ¬ (twF s t.id).isSome = true := fun h => by
      unfold twF at h
      rw [List.find?_isSome] at h
      obtain ⟨u, hu, he⟩ := h
      exact h3 t (by simp) u hu (by simpa using he)
    rw [tgE, if_pos (by rw [h4.1, h4.2.1, h4.2.2]; rfl), if_neg hno]
    refine tgE_of (fun u hu => h1 u (by simp [hu])) h2.2 fun u hu v hv => ?_
    rcases List.mem_append.1 hv with hv | hv
    · exact h3 u (by simp [hu]) v hv
    · rw [List.mem_singleton.1 hv]
      exact fun e => h2.1 (List.mem_map.2 ⟨u, hu, e.symm⟩)
theorem ck_more {wd hg : Int} {g : List Int} {T : List Tw} {H : List Hz} {t : Tw} (h : ckE wd hg g T H = 0) (hn : T.length ≤ 11) (ht : okT wd hg t) (hne : ∀ u ∈ T, u.id ≠ t.id) : ckE wd hg g (T ++ [t]) H = 0 := by
  obtain ⟨a, b, c, d, e, f⟩ := ckE_ok h
  unfold ckE
  rw [if_pos a, if_pos ⟨by simp; omega, c⟩]
  have : tgE wd hg [] (T ++ [t]) = 0 := tgE_of (fun u hu => by
      rcases List.mem_append.1 hu with hu | hu
      · exact d u hu
      · rw [List.mem_singleton.1 hu]; exact ht) (by
      rw [List.map_append]
      refine List.nodup_append.2 ⟨e, by simp, fun x hx y hy => ?_⟩
      obtain ⟨u, hu, rfl⟩ := List.mem_map.1 hx
      simp at hy
      rw [hy]; exact hne u hu) (by simp)
  rw [this, if_pos rfl, if_pos f]
theorem TwRow.of_own {w : World} {base : Nat} {v : Value} {l : List Tw} (h : w.ownsRow base 48 4 v l.length (l.flatMap encT)) : TwRow w v l := by
  rcases h.2 with ⟨h1, h2⟩ | ⟨nb, nc, cur, e1, e2, e3, e4, e5, e6, e7⟩
  · have : l = [] := List.eq_nil_of_length_eq_zero h2
    subst this
    exact .inl ⟨none, 0, h1, rfl⟩
  · rw [e1]
    refine TwRow.of_raw (by omega) (Array.getElem?_eq_some_iff.1 e3).1 fun j hj => ?_
    have h7 : cur.toList.take (l.length * 4) = l.flatMap encT := by simpa using e7
    have g1 := flatT_get l j hj
    rw [← h7, List.getElem?_take_of_lt hj, Array.getElem?_toList] at g1
    rw [cellH e3, Nat.zero_add]
    exact g1
set_option maxRecDepth 100000 in
set_option maxHeartbeats 8000000 in
theorem Covered_bad (wd hg : Int) (o tv hv : Value) (g : List Int) (T : List Tw) (H : List Hz) (rise tick tw : Int) (w : World) (ho : INRow w o g) (hl : g.length ≤ 9223372036854775807) (ht : TwRow w tv T) (htl : T.length ≤ 9223372036854775807) (hh : HzRow w hv H) (hhl : H.length ≤ 9223372036854775807) (hcv : cvE wd hg g T H rise tick ≠ 0) :
    Calls Try.prog 9 #[coV wd hg o tv hv, .int .i64 rise, .int .i64 tick, .int .i64 tw] w fun e w' => e = .returned (.tuple #[.slice none 0 0, .int .i64 (cvE wd hg g T H rise tick)]) ∧ Below w.heap.size w w' := by
  have HCV := Lib.hid (fun w' (h : Below w.heap.size w w') => checkView_any wd hg o tv hv g T H rise tick w' (ho.keep h) hl (ht.keep h) htl (hh.keep h) hhl)
  obtain ⟨oa, oc, rfl, _⟩ := ho.form
  obtain ⟨W1, hW1, hb0, hs1, hrd⟩ := co_reads w wd hg (.slice oa g.length oc) tv hv
  have HW1 := Lib.hid hW1; have HB0 := Lib.hid hb0; have HRD := Lib.hid hrd
  clear hW1 hb0 hs1 hrd ho ht hh hl htl hhl
  obtain ⟨E, hE⟩ : ∃ x, cvE wd hg g T H rise tick = x := ⟨_, rfl⟩
  rw [hE] at HCV hcv ⊢
  have qe : (E != 0) = true := by simpa using hcv
  clear hE hcv
  unfold coV at HCV
  unfold coV
  go_enter Try.func9, Try.ntmps9
  go_wp2_with fail
  rw [← HW1.out]
  obtain ⟨q0, q1, q2, q3, q4⟩ := HRD.out W1 (Below.refl _ _)
  go_wp2_with fail
  refine (HCV.out _ HB0.out).mono ?_
  rintro e w2 ⟨rfl, hb2⟩
  have HB2 := Lib.hid (HB0.out.trans (hb2.mono HB0.out.size))
  clear hb2 q0 q1 q2 q3 q4
  go_wp2_with fail
  go_ret2
  exact ⟨rfl, HB2.out⟩
end Go.Proofs.Ytnacgogcbbpjmaa
