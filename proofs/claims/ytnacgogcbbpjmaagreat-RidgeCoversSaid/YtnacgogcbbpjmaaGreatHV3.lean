/- The reference's Watchers. -/
import Derived.Test.YtnacgogcbbpjmaaGreatHV2
import Derived.Test.YtnacgogcbbpjmaaGreatHN1
set_option linter.unusedVariables false
set_option linter.unusedSimpArgs false
namespace Go.Proofs.YtnacgogcbbpjmaaGreat
open Go Go.RowKit

theorem info_ints2 : (Tryz.prog.info? 41).map (·.size) = some 2 := by kernel_rfl
/-- What the reference's Watchers returns. -/
def WtOut (EW : Int) (g : List Int) (wd : Int) (T : List Tw) (p : Pl) (rise fa : Int) (w : World) (e : Ending) (w' : World) : Prop :=
  ∃ va n c, e = .returned (.agg #[.slice va n c, .int .i64 EW]) ∧ Below w.heap.size w w' ∧ (EW ≠ 0 → Value.slice va n c = .slice none 0 0) ∧
    (EW = 0 → ∃ out : List Int, w'.ownsRow w.heap.size 3 1 (.slice va n c) out.length (out.map (Value.int .i64 ·)) ∧ out.Perm (wtL g wd T p rise fa) ∧ out.Pairwise (· ≤ ·))
set_option maxRecDepth 100000 in
set_option maxHeartbeats 8000000 in
theorem rWatchers_any (wd hg : Int) (o tv hv : Value) (g : List Int) (T : List Tw) (H : List Hz) (x y rise tick : Int) (w : World) (ho : INRow w o g) (hl : g.length ≤ 9223372036854775807) (ht : TwRow w tv T) (htl : T.length ≤ 9223372036854775807) (hh : HzRow w hv H) (hhl : H.length ≤ 9223372036854775807) :
    Calls Tryz.prog 12 #[coV wd hg o tv hv, .agg #[.int .i64 x, .int .i64 y], .int .i64 rise, .int .i64 tick] w fun e w' => WtOut (wtE wd hg g T H (x, y) rise tick) g wd T (x, y) rise (faO H tick) w e w' := by
  have HC1 := Lib.hid (fun w' (h : Below w.heap.size w w') => rCheck_any wd hg o tv hv g T H w' (ho.keep h) hl (ht.keep h) htl (hh.keep h) hhl)
  have HON := Lib.hid (fun w' => rOn_any wd hg o (x, y) w')
  have HVT := Lib.hid (rtall_any rise)
  have HVK := Lib.hid (rminute_any tick)
  have HFA := Lib.hid (fun (hck : ckE wd hg g T H = 0) w' (h : Below w.heap.size w w') => rfar_any wd hg o tv hv H tick w' (hh.keep h) (by obtain ⟨_, _, h, _⟩ := ckE_ok hck; omega))
  have HIN := Lib.hid (fun (hck : ckE wd hg g T H = 0) (hon : onB wd hg (x, y) = true) (hri : wiB rise 0 200 = true) (k : Nat) (hk : k < T.length) w' (h : Below w.heap.size w w') => rin_any wd hg o g (T.getD k .nil).id (T.getD k .nil).x (T.getD k .nil).y (T.getD k .nil).h x y rise (faO H tick) w' (ho.keep h) (ckE_ok hck).1 ((ckE_ok hck).2.2.2.1 _ (by rw [getD_tw hk]; exact List.getElem_mem _)).2.1 hon (okT_h ((ckE_ok hck).2.2.2.1 _ (by rw [getD_tw hk]; exact List.getElem_mem _))) (wi_rise hri) (faO_bd (ckE_ok hck).2.2.2.2.2))
  have HN12 := Lib.hid (fun (hck : ckE wd hg g T H = 0) => (ckE_ok hck).2.1)
  obtain ⟨oa, oc, rfl, _⟩ := ho.form
  obtain ⟨ta, tc, rfl, htc⟩ := ht.form
  have HTC := Lib.hid htc
  have HIDK := Lib.hid (fun fa => idK_is (L := T) (f := fun i => seB g wd (T.getD i .nil) (x, y) rise fa) (P := fun t => seB g wd t (x, y) rise fa) (fun i _ => rfl) T.length (Nat.le_refl _))
  clear ho ht hh hl htl hhl htc
  unfold wtE
  unfold mpV plV at HON
  simp only at HON
  obtain ⟨E, hE⟩ : ∃ z, ckE wd hg g T H = z := ⟨_, rfl⟩
  rw [hE] at HC1 HFA HIN HN12 ⊢
  obtain ⟨ob, hob⟩ : ∃ z, onB wd hg (x, y) = z := ⟨_, rfl⟩
  rw [hob] at HON HIN ⊢
  obtain ⟨rb, hrb⟩ : ∃ z, wiB rise 0 200 = z := ⟨_, rfl⟩
  rw [hrb] at HVT HIN ⊢
  obtain ⟨kb, hk⟩ : ∃ z, wiB tick 0 1048576 = z := ⟨_, rfl⟩
  rw [hk] at HVK ⊢
  obtain ⟨fa, hf⟩ : ∃ z, faO H tick = z := ⟨_, rfl⟩
  rw [hf] at HFA HIN ⊢
  clear hE hob hrb hk hf
  have HA : Hid (∀ W', Below (((w.alloc (.cells #[.int .i64 wd, .int .i64 hg, .slice oa g.length oc, .slice ta T.length tc, hv] 28)).alloc (.cells #[.int .i64 x, .int .i64 y] 30)).alloc (.cells #[.slice none 0 0, .int .i64 0] 41)).heap.size (((w.alloc (.cells #[.int .i64 wd, .int .i64 hg, .slice oa g.length oc, .slice ta T.length tc, hv] 28)).alloc (.cells #[.int .i64 x, .int .i64 y] 30)).alloc (.cells #[.slice none 0 0, .int .i64 0] 41)) W' → W'.cell? ⟨w.heap.size, 0, none⟩ = some (.int .i64 wd) ∧ W'.cell? ⟨w.heap.size, 1, none⟩ = some (.int .i64 hg) ∧ W'.cell? ⟨w.heap.size, 2, none⟩ = some (.slice oa g.length oc) ∧ W'.cell? ⟨w.heap.size, 3, none⟩ = some (.slice ta T.length tc) ∧ W'.cell? ⟨w.heap.size, 4, none⟩ = some hv ∧ W'.cell? ⟨w.heap.size + 1, 0, none⟩ = some (.int .i64 x) ∧ W'.cell? ⟨w.heap.size + 1, 1, none⟩ = some (.int .i64 y) ∧ W'.heap[w.heap.size + 2]? = some (Obj.cells #[.slice none 0 0, .int .i64 0] 41 (0, 0)) ∧ Below w.heap.size w W') := Lib.hid (fun W' h => by
    obtain ⟨a, b, c, _, d⟩ := three_cells w _ _ _ _ _ _ h
    exact ⟨cellH a 0, cellH a 1, cellH a 2, cellH a 3, cellH a 4, cellH b 0, cellH b 1, c, d⟩)
  obtain ⟨W1, hW1⟩ : ∃ X, ((w.alloc (.cells #[.int .i64 wd, .int .i64 hg, .slice oa g.length oc, .slice ta T.length tc, hv] 28)).alloc (.cells #[.int .i64 x, .int .i64 y] 30)).alloc (.cells #[.slice none 0 0, .int .i64 0] 41) = X := ⟨_, rfl⟩
  rw [hW1] at HA
  have HW1 := Lib.hid hW1
  have HRD := HA
  have HB0 := Lib.hid (HA.out W1 (Below.refl _ _)).2.2.2.2.2.2.2.2
  have HS1 : Hid (W1.heap.size = w.heap.size + 3) := Lib.hid (by rw [← hW1]; simp)
  have HRES : Hid (∀ (W : World) (E : Int), Below W1.heap.size W1 W → (((W.setCell ⟨w.heap.size + 2, 0, none⟩ (.slice none 0 0)).setCell ⟨w.heap.size + 2, 1, none⟩ (.int .i64 E)).heap[w.heap.size + 2]? = some (Obj.cells #[.slice none 0 0, .int .i64 E] 41 (0, 0)) ∧ Below w.heap.size w ((W.setCell ⟨w.heap.size + 2, 0, none⟩ (.slice none 0 0)).setCell ⟨w.heap.size + 2, 1, none⟩ (.int .i64 E)))) := Lib.hid (fun W E h => by
    obtain ⟨_, _, _, _, _, _, _, m, d⟩ := HA.out W h
    exact ⟨heap_same (heap_same m 0 _) 1 _, (d.setCell (p := ⟨w.heap.size + 2, 0, none⟩) (by simp only; omega) _).setCell (p := ⟨w.heap.size + 2, 1, none⟩) (by simp only; omega) _⟩)
  clear hW1 HA
  unfold coV at HC1 HFA
  unfold coV
  go_enter Tryz.func12, Tryz.ntmps12
  go_wp2_with fail
  rw [HW1.out]
  obtain ⟨q0, q1, q2, q3, q4, q5, q6, _, _⟩ := HRD.out W1 (Below.refl _ _)
  go_wp2_with fail
  refine (HC1.out _ HB0.out).mono ?_
  rintro e w2 ⟨rfl, hb2⟩
  have HD2 := Lib.hid hb2
  have HB2 := Lib.hid (HB0.out.trans (hb2.mono HB0.out.size))
  clear hb2 q0 q1 q2 q3 q4 q5 q6
  by_cases hE0 : E = 0
  case neg =>
    have qe : (E != 0) = true := by simpa using hE0
    have HE0 := Lib.hid hE0
    obtain ⟨_, _, _, _, _, _, _, hr, _⟩ := HRD.out _ HD2.out
    have v0 := cellH hr 0
    have v1 := cellH hr 1
    have vf := freeH hr
    simp at v0 v1
    clear hE0 hr
    go_wp2_with fail
    refine bodyPost_ret (results_cell_row Tryz.results12 _ _ (w.heap.size + 2) 41 #[.slice none 0 0, .int .i64 E] (0, 0) _ rfl (HRES.out _ E HD2.out).1 Tryz.underlying41 rfl info_ints2) rfl ?_
    unfold WtOut
    exact ⟨_, _, _, by first | rfl | rw [if_neg HE0.out], (HRES.out _ E HD2.out).2, fun _ => rfl, fun h => by first | exact absurd h HE0.out | (rw [if_neg HE0.out] at h; exact absurd h HE0.out)⟩
  subst hE0
  obtain ⟨q0, q1, q2, q3, q4, q5, q6, _, _⟩ := HRD.out _ HD2.out
  go_wp2_with fail
  clear q0 q1 q2 q3 q4 q5 q6
  refine (HON.out _).mono ?_
  rintro e w4 ⟨rfl, hb4⟩
  have HD4 := Lib.hid (HD2.out.trans (hb4.mono HD2.out.size))
  have HB4 := Lib.hid (HB2.out.trans (hb4.mono HB2.out.size))
  clear hb4
  by_cases hall : (ob && rb && kb) = true
  case neg =>
    have HBAD : Hid ((ob && rb && kb) = false) := Lib.hid (by simpa using hall)
    have hw4 := HD4.out
    clear hw4
    obtain ⟨_, _, _, _, _, _, _, hr, _⟩ := HRD.out _ HD4.out
    have v0 := cellH hr 0
    have v1 := cellH hr 1
    have vf := freeH hr
    simp at v0 v1
    have HFIN := Lib.hid (HRES.out _ 1 HD4.out).2
    clear hall hr
    cases ob
    · go_wp2_with fail
      exact bodyPost_ret (results_cell_row Tryz.results12 _ _ (w.heap.size + 2) 41 #[.slice none 0 0, .int .i64 1] (0, 0) _ rfl (HRES.out _ 1 HD4.out).1 Tryz.underlying41 rfl info_ints2) rfl (by unfold WtOut; exact ⟨_, _, _, rfl, HFIN.out, fun _ => rfl, fun h => by cases h⟩)
    go_wp2_with fail
    refine (HVT.out _).mono ?_
    rintro e w5 ⟨rfl, rfl⟩
    cases rb
    · go_wp2_with fail
      exact bodyPost_ret (results_cell_row Tryz.results12 _ _ (w.heap.size + 2) 41 #[.slice none 0 0, .int .i64 1] (0, 0) _ rfl (HRES.out _ 1 HD4.out).1 Tryz.underlying41 rfl info_ints2) rfl (by unfold WtOut; exact ⟨_, _, _, rfl, HFIN.out, fun _ => rfl, fun h => by cases h⟩)
    go_wp2_with fail
    refine (HVK.out _).mono ?_
    rintro e w6 ⟨rfl, rfl⟩
    cases kb
    · go_wp2_with fail
      exact bodyPost_ret (results_cell_row Tryz.results12 _ _ (w.heap.size + 2) 41 #[.slice none 0 0, .int .i64 1] (0, 0) _ rfl (HRES.out _ 1 HD4.out).1 Tryz.underlying41 rfl info_ints2) rfl (by unfold WtOut; exact ⟨_, _, _, rfl, HFIN.out, fun _ => rfl, fun h => by cases h⟩)
    · exact absurd HBAD.out (by decide)
  obtain ⟨⟨rfl, rfl⟩, rfl⟩ : (ob = true ∧ rb = true) ∧ kb = true := by simpa using hall
  clear hall
  go_wp2_with fail
  refine (HVT.out _).mono ?_
  rintro e w5 ⟨rfl, rfl⟩
  go_wp2_with fail
  refine (HVK.out _).mono ?_
  rintro e w6 ⟨rfl, rfl⟩
  have HI2 := Lib.hid (fun k hk w' h => HIN.out (by trivial) (by trivial) (by trivial) k hk w' h)
  have HFA2 := Lib.hid (fun w' h => HFA.out (by trivial) w' h)
  have hn12 := HN12.out (by trivial)
  have HN := Lib.hid hn12
  obtain ⟨i0, hi0, hz0, hz1, hz2⟩ := info_parts info_int1
  clear HIN HFA HN12 hn12
  go_wp2_with fail
  go_loopw [10, 11] (fun v i wr => ∃ (k : Nat), k ≤ T.length ∧ i = .int .i64 k ∧ Hid (Below w6.heap.size w6 wr) ∧ Hid (wr.ownsRow w6.heap.size 3 1 v (idK T (fun i => seB g wd (T.getD i .nil) (x, y) rise fa) k).length ((idK T (fun i => seB g wd (T.getD i .nil) (x, y) rise fa) k).map (Value.int .i64 ·)))) (fun _ i _ => T.length - (intOf i).toNat)
  case atStart => exact ⟨0, Nat.zero_le _, rfl, Lib.hid (Below.refl _ _), Lib.hid (World.ownsRow_nil _ _ _ _)⟩
  case round =>
    obtain ⟨k, hk, rfl, hB, hO⟩ := hrel
    have HDR := Lib.hid (HD4.out.trans (hB.out.mono HD4.out.size))
    have HBR := Lib.hid (HB4.out.trans (hB.out.mono HB4.out.size))
    obtain ⟨q0, q1, q2, q3, q4, q5, q6, _, _⟩ := HRD.out wr HDR.out
    by_cases hkl : k < T.length
    · obtain ⟨tb, tf, rfl, htb, d0, d1, d2, d3⟩ := HTC.out k hkl
      have HIK := Lib.hid (HI2.out k hkl)
      have HLN := Lib.hid (idK_len T (fun i => seB g wd (T.getD i .nil) (x, y) rise fa) k)
      have HKK : Hid (idK T (fun i => seB g wd (T.getD i .nil) (x, y) rise fa) (k + 1) = if seB g wd (T.getD k .nil) (x, y) rise fa = true then idK T (fun i => seB g wd (T.getD i .nil) (x, y) rise fa) k ++ [(T.getD k .nil).id] else idK T (fun i => seB g wd (T.getD i .nil) (x, y) rise fa) k) := Lib.hid rfl
      obtain ⟨K', hK'⟩ : ∃ l, idK T (fun i => seB g wd (T.getD i .nil) (x, y) rise fa) (k + 1) = l := ⟨_, rfl⟩
      obtain ⟨dl, hdl⟩ : ∃ l, idK T (fun i => seB g wd (T.getD i .nil) (x, y) rise fa) k = l := ⟨_, rfl⟩
      have HKP := Lib.hid hK'
      rw [hK', hdl] at HKK
      rw [hdl] at hO HLN
      obtain ⟨⟨ti, tx, ty, th⟩, htt⟩ : ∃ z, T.getD k .nil = z := ⟨_, rfl⟩
      rw [htt] at d0 d1 d2 d3 HIK HKK
      simp only at d0 d1 d2 d3 HIK HKK
      obtain ⟨fb, hfb⟩ : ∃ b, seB g wd ⟨ti, tx, ty, th⟩ (x, y) rise fa = b := ⟨_, rfl⟩
      rw [hfb] at HIK HKK
      have hki : (k : Int) < T.length := by omega
      have hk0 : (0 : Int) ≤ k := by omega
      have KA : Hid (∀ W', Below wr.heap.size wr W' → W'.cell? ⟨w.heap.size, 0, none⟩ = some (.int .i64 wd) ∧ W'.cell? ⟨w.heap.size, 1, none⟩ = some (.int .i64 hg) ∧ W'.cell? ⟨w.heap.size, 2, none⟩ = some (.slice oa g.length oc) ∧ W'.cell? ⟨w.heap.size, 3, none⟩ = some (.slice (some ⟨tb, tf, none⟩) T.length tc) ∧ W'.cell? ⟨w.heap.size, 4, none⟩ = some hv ∧ W'.cell? ⟨w.heap.size + 1, 0, none⟩ = some (.int .i64 x) ∧ W'.cell? ⟨w.heap.size + 1, 1, none⟩ = some (.int .i64 y) ∧ W'.cell? ⟨tb, tf + k * 4, none⟩ = some (.int .i64 ti) ∧ W'.cell? ⟨tb, tf + k * 4 + 1, none⟩ = some (.int .i64 tx) ∧ W'.cell? ⟨tb, tf + k * 4 + 2, none⟩ = some (.int .i64 ty) ∧ W'.cell? ⟨tb, tf + k * 4 + 3, none⟩ = some (.int .i64 th)) := Lib.hid (fun W' h => by
        obtain ⟨z0, z1, z2, z3, z4, z5, z6, _, _⟩ := HRD.out W' (HDR.out.trans (h.mono HDR.out.size))
        have hbb := HBR.out.trans (h.mono HBR.out.size)
        exact ⟨z0, z1, z2, z3, z4, z5, z6, (hbb.cell (p := ⟨tb, _, none⟩) htb).trans d0, (hbb.cell (p := ⟨tb, _, none⟩) htb).trans d1, (hbb.cell (p := ⟨tb, _, none⟩) htb).trans d2, (hbb.cell (p := ⟨tb, _, none⟩) htb).trans d3⟩)
      have CF : Hid (∀ w', Below wr.heap.size wr w' → Calls Tryz.prog 33 #[.agg #[.int .i64 wd, .int .i64 hg, .slice oa g.length oc, .slice (some ⟨tb, tf, none⟩) T.length tc, hv], .int .i64 tick] w' fun e w'' => e = .returned (.int .i64 fa) ∧ Below wr.heap.size wr w'') := Lib.hid (fun w' h => (HFA2.out w' (HBR.out.trans (h.mono HBR.out.size))).mono fun e w'' ⟨he, hh⟩ => ⟨he, h.trans (hh.mono h.size)⟩)
      have CI : Hid (∀ w', Below wr.heap.size wr w' → Calls Tryz.prog 41 #[.agg #[.int .i64 wd, .int .i64 hg, .slice oa g.length oc], .agg #[.int .i64 ti, .int .i64 tx, .int .i64 ty, .int .i64 th], .agg #[.int .i64 x, .int .i64 y], .int .i64 rise, .int .i64 fa] w' fun e w'' => e = .returned (.bool fb) ∧ Below wr.heap.size wr w'') := Lib.hid (fun w' h => (HIK.out w' (HBR.out.trans (h.mono HBR.out.size))).mono fun e w'' ⟨he, hh⟩ => ⟨he, h.trans (hh.mono h.size)⟩)
      clear hK' hdl htt hfb d0 d1 d2 d3 htb HIK
      go_wp2_with fail
      clear q0 q1 q2 q3 q4 q5 q6
      refine wp_region_turn 12 (fun _ w' => Below wr.heap.size wr w') (by kernel_rfl) (by kernel_rfl) ((Below.refl _ wr).drew) ?_
      simp only [List.take_succ_cons, List.take_zero, List.drop_succ_cons, List.drop_zero]
      iterate 12
        (first
          | (apply turnC_step (by rfl); (intro w' hw'; go_simp; exact CF.out w' hw'))
          | (apply turnC_step (by rfl); (intro w' hw'; obtain ⟨y0, y1, y2, y3, y4, y5, y6, y7, y8, y9, y10⟩ := KA.out w' hw'; go_simp; first | exact ⟨hw', rfl⟩ | exact rfl)))
        simp only [Act.put, List.setIfInBounds_toArray, List.set_cons_succ, List.set_cons_zero]
      intro listed w7 _ hw7
      have HD7 := Lib.hid hw7
      clear hw7
      go_wp2_with fail
      refine (CI.out _ HD7.out).mono ?_
      rintro e w8 ⟨rfl, hb8⟩
      have HB8 := Lib.hid (hB.out.trans (hb8.mono hB.out.size))
      have HO8 := Lib.hid (own_below hO.out hb8)
      obtain ⟨y0, y1, y2, y3, y4, y5, y6, y7, y8, y9, y10⟩ := KA.out _ hb8
      have hn12 := HN.out
      clear hb8 KA CF CI
      cases fb
      · have HO9 : Hid (w8.ownsRow w6.heap.size 3 1 u10 (idK T (fun i => seB g wd (T.getD i .nil) (x, y) rise fa) (k + 1)).length ((idK T (fun i => seB g wd (T.getD i .nil) (x, y) rise fa) (k + 1)).map (Value.int .i64 ·))) := Lib.hid (by rw [HKP.out, HKK.out]; exact HO8.out)
        clear HKP HKK HLN
        go_wp2_with fail
        go_roundw
        case rel => exact ⟨k + 1, by omega, by go_num, HB8, HO9⟩
        case measure => simp [intOf]; omega
      · have hlen := HLN.out
        have h63 : dl.length + 1 ≤ maxLen := by unfold maxLen; omega
        have hby : (dl.length + 1) * 8 ≤ 140737488355328 := by omega
        have hbase : w6.heap.size ≤ w8.heap.size := HB8.out.size
        have hO6 := HO8.out
        clear hlen
        go_wp2_with (at_builtin; refine wpList_append_own _ rfl _ _ 22 rfl w6.heap.size 3 i0 (.int .i64 0) 1 8 Tryz.underlying22 hi0 hz0 hz1 hz2 rfl (by decide) _ _ _ rfl (World.ownsRow.alloc hO6 _) ⟨w8.heap.size, 0, none⟩ 1 1 [.int .i64 ti] rfl rfl (fun j u h => cell_one' _ _ _ j u h) (by simp [Value.oneCell']) h63 hby (by simp; omega) ?_; intro v' w9 hown' hgrow _)
        have HB9 : Hid (Below w6.heap.size w6 w9) := Lib.hid ((HB8.out.alloc hbase _).grown hgrow (by simp; omega) (fun j e => (World.ownsRow.lt hO6 j e).1))
        have HO9 : Hid (w9.ownsRow w6.heap.size 3 1 v' (idK T (fun i => seB g wd (T.getD i .nil) (x, y) rise fa) (k + 1)).length ((idK T (fun i => seB g wd (T.getD i .nil) (x, y) rise fa) (k + 1)).map (Value.int .i64 ·))) := Lib.hid (by
          rw [HKP.out, (show K' = dl ++ [ti] by rw [HKK.out]; simp), List.length_append, List.map_append]; exact hown')
        clear hown' hgrow hO6 y0 y1 y2 y3 y4 y5 y6 y7 y8 y9 y10 HKP HKK
        go_wp2_with fail
        go_roundw
        case rel => exact ⟨k + 1, by omega, by go_num, HB9, HO9⟩
        case measure => simp [intOf]; omega
    · obtain rfl : k = T.length := by omega
      have hidk := HIDK.out fa
      rw [List.take_length] at hidk
      have hO2 : Hid (wr.ownsRow w6.heap.size 3 1 u10 (wtL g wd T (x, y) rise fa).length ((wtL g wd T (x, y) rise fa).map (Value.int .i64 ·))) := Lib.hid (by
        have h := hO.out
        rw [hidk] at h
        exact h)
      have HWL : Hid ((wtL g wd T (x, y) rise fa).length ≤ 1000) := Lib.hid (by unfold wtL; rw [List.length_map]; have h1 := List.length_filter_le (fun t => seB g wd t (x, y) rise fa) T; have h2 := HN.out; omega)
      have HRG := Lib.hid (rising_any _ _ wr (INRow.of_own hO2.out) HWL.out)
      clear hO hidk
      go_wp2_with fail
      refine HRG.out.mono ?_
      rintro e w9 ⟨v9, out, rfl, hb9, hown, hperm, hsort⟩
      have HD9 := Lib.hid (HDR.out.trans (hb9.mono HDR.out.size))
      have HB9 := Lib.hid (HBR.out.trans (hb9.mono HBR.out.size))
      obtain ⟨va, vc, rfl⟩ := row_form hown
      have HOW := Lib.hid (own_base hown HBR.out.size)
      have HPS := Lib.hid (show _ ∧ _ from ⟨hperm, hsort⟩)
      obtain ⟨_, _, _, _, _, _, _, hr, hbw⟩ := HRD.out _ HD9.out
      have HMM := Lib.hid hr
      have HBW := Lib.hid hbw
      have v0 := cellH hr 0
      have v1 := cellH hr 1
      have vf := freeH hr
      simp at v0 v1
      clear hb9 hown hperm hsort hr hbw q0 q1 q2 q3 q4 q5 q6
      go_wp2_with fail
      refine bodyPost_ret (results_cell_row Tryz.results12 _ _ (w.heap.size + 2) 41 #[.slice va out.length vc, .int .i64 0] (0, 0) _ rfl (heap_same (heap_same HMM.out 0 _) 1 _) Tryz.underlying41 rfl info_ints2) rfl ?_
      unfold WtOut
      exact ⟨_, _, _, rfl, (HBW.out.setCell (p := ⟨w.heap.size + 2, 0, none⟩) (by simp only; omega) _).setCell (p := ⟨w.heap.size + 2, 1, none⟩) (by simp only; omega) _, fun h => absurd rfl h, fun _ => ⟨out, row_set (row_set HOW.out HMM.out (by decide) 0 _) (heap_same HMM.out 0 _) (by decide) 1 _, HPS.out.1, HPS.out.2⟩⟩
end Go.Proofs.YtnacgogcbbpjmaaGreat
