/- Needed of the reference. -/
import Derived.Test.YtiboolbndfhomaaNG2
import Derived.Test.YtiboolbndfhomaaNE4
set_option linter.unusedVariables false
set_option linter.unusedSimpArgs false
namespace Go.Proofs.Ytiboolbndfhomaa
open Go.RowKit

theorem tNeRI : (39 : TypeId) ≠ 3 := by decide
theorem rN_results {tmps : Array Value} {w : World} {R : Nat} {u v : Value} (h4 : tmps.getD 8 undef = .pointer (some ⟨R, 0, none⟩)) (hg : w.heap[R]? = some (.cells #[u, v] 39 (0, 0))) : (results Try.f30 tmps).run Try.prog w = .ok (.agg #[u, v]) w := by
  have h4' : tmps[8]?.getD undef = .pointer (some ⟨R, 0, none⟩) := by simpa using h4
  simp [results, Try.results30, asAddr, h4', run_loadVar_row w R 39 39 #[u, v] (0, 0) _ hg Try.underlying39 rfl info_ri]
/-- What the reference's Needed returns. -/
def RNeedOut (st : Int) (ls : List Lk) (a b t : Int) (w : World) (e : Ending) (w' : World) : Prop :=
  ∃ (v : Value) (q : Int), e = .returned (.agg #[v, .int .i64 q]) ∧ Below w.heap.size w w' ∧ (wayE st ls a b t ≠ 0 → v = .slice none 0 0 ∧ q = wayE st ls a b t) ∧
    (wayE st ls a b t = 0 → ∃ at' by', Inv st.toNat ls a.toNat t at' by' ∧ Shut ls at' ∧ ((at0 at' b.toNat < 0 ∧ v = .slice none 0 0 ∧ q = 5) ∨ (0 ≤ at0 at' b.toNat ∧ q = 0 ∧
      ∃ c, (∀ i, i < ls.length → OtherAt st.toNat ls a.toNat t b.toNat (at0 at' b.toNat) i (c i)) ∧ INRow w' v (numsL c ls.length))))
theorem wayE_less {s : Int} {ls : List Lk} {a b t : Int} {i : Nat} (hi : i < ls.length) (h : wayE s ls a b t = 0) : wayE s (lessL ls i) a b t = 0 := by
  obtain ⟨h0, hb⟩ := wayE_ok h
  obtain ⟨hn, _⟩ := startE_ok h0
  obtain ⟨s1, s10, l40, hks⟩ := netE_ok hn
  have hn' : netE s (lessL ls i) = 0 := netE_all s1 s10 (by rw [lessL_len]; exact l40) (lessL_ok hi hks)
  have h0' : startE s (lessL ls i) a t = 0 := by
    unfold startE at h0 ⊢
    rw [if_pos hn] at h0
    rw [if_pos hn']
    exact h0
  unfold wayE
  rw [if_pos h0', if_pos hb]

set_option maxRecDepth 100000 in
set_option maxHeartbeats 8000000 in
theorem rNeeded_any (st : Int) (o : Value) (ls : List Lk) (a b t : Int) (w : World) (hv : NRow w o ls) (hst : -9223372036854775808 ≤ st ∧ st ≤ 9223372036854775807) :
    Calls Try.prog 30 #[ntV st o, .int .i64 a, .int .i64 b, .int .i64 t] w fun e w' => RNeedOut st ls a b t w e w' := by
  have HC := Lib.hid (fun w' (h : Below w.heap.size w w') => rArrives_any st o ls a b t w' (hv.keep h) hst)
  have HCS := Lib.hid (fun i gg cap w' (hi : i < ls.length) (h : NRow w' (.slice (some ⟨gg, 0, none⟩) ls.length cap) (lessL ls i)) => rArrives_any st (.slice (some ⟨gg, 0, none⟩) ls.length cap) (lessL ls i) a b t w' h hst)
  have HSh := Lib.hid (fun i (hi : i < ls.length) (h40 : ls.length ≤ 40) w' (h : Below w.heap.size w w') => rshut_any st o ls i w' (hv.keep h) hi h40)
  obtain ⟨oa, oc, rfl, hlc⟩ := hv.row.form
  have HA := Lib.hid (fun W' => two_cells w #[.int .i64 st, .slice oa ls.length oc] #[.slice none 0 0, .int .i64 0] 24 39 (W := W'))
  have HB0 := Lib.hid (((Below.refl _ w).alloc (Nat.le_refl w.heap.size) (.cells #[.int .i64 st, .slice oa ls.length oc] 24)).alloc (by simp) (.cells #[.slice none 0 0, .int .i64 0] 39))
  unfold ntV at HC HCS HSh ⊢
  obtain ⟨W2, hW2⟩ : ∃ W2, (w.alloc (.cells #[.int .i64 st, .slice oa ls.length oc] 24)).alloc (.cells #[.slice none 0 0, .int .i64 0] 39) = W2 := ⟨_, rfl⟩
  rw [hW2] at HA HB0
  have HW2 := Lib.hid hW2
  clear hv hlc hW2
  go_enter Try.func30, Try.ntmps30
  go_wp2_with fail
  rw [HW2.out]
  refine (HC.out _ HB0.out).mono ?_
  rintro e w1 ⟨x, q, rfl, hb, h1, h2⟩
  have HD1 := Lib.hid hb
  obtain ⟨n0, n1, hlt, hw1⟩ := HA.out w1 hb
  by_cases hq : q = 0
  case neg =>
    have hz : (q != 0) = true := by simpa using hq
    have H1 := Lib.hid h1
    have H2 := Lib.hid h2
    have r0 := cellH n1 0
    have r1 := cellH n1 1
    have f0 := freeH n1 0
    have f1 := freeH n1 1
    simp at r0 r1
    have HR : Hid (((w1.setCell ⟨w.heap.size + 1, 0, none⟩ (.slice none 0 0)).setCell ⟨w.heap.size + 1, 1, none⟩ (.int .i64 q)).heap[w.heap.size + 1]? = some (.cells #[.slice none 0 0, .int .i64 q] 39 (0, 0))) := Lib.hid (set_pair n1)
    have HB1 := Lib.hid ((hw1.setCell (p := ⟨w.heap.size + 1, 0, none⟩) (by simp) (.slice none 0 0)).setCell (p := ⟨w.heap.size + 1, 1, none⟩) (by simp) (.int .i64 q))
    have HQ := Lib.hid hq
    clear hb hw1 n0 n1 h1 h2 hq
    go_wp2_with fail
    refine bodyPost_ret (rN_results rfl HR.out) rfl ?_
    refine ⟨_, q, rfl, HB1.out, fun h => ⟨rfl, (H1.out h).2⟩, fun h => ?_⟩
    obtain ⟨at', by', i1, i2, hc⟩ := H2.out h
    refine ⟨at', by', i1, i2, .inl ?_⟩
    rcases hc with ⟨c1, _, c3⟩ | ⟨_, _, c3⟩
    · exact ⟨c1, rfl, c3⟩
    · exact absurd c3 HQ.out
  subst hq
  have hE : wayE st ls a b t = 0 := Decidable.byContradiction fun h => h ((h1 h).2.symm)
  obtain ⟨at', by', i1, i2, hcs⟩ := h2 hE
  obtain ⟨hpos, hx⟩ : 0 ≤ at0 at' b.toNat ∧ x = at0 at' b.toNat := by
    rcases hcs with ⟨_, _, h⟩ | ⟨h3, h4, _⟩
    · exact absurd h (by decide)
    · exact ⟨h3, h4⟩
  have HI := Lib.hid i1
  have HS := Lib.hid i2
  have HX := Lib.hid hx
  have HP := Lib.hid hpos
  have HE := Lib.hid hE
  obtain ⟨hs0, hbs⟩ := wayE_ok hE
  obtain ⟨hne, _⟩ := startE_ok hs0
  obtain ⟨s1, s10, l40, hks⟩ := netE_ok hne
  have q0 := cellH n0 0
  have q1 := cellH n0 1
  simp at q0 q1
  have HB1 := Lib.hid hw1
  obtain ⟨i0, hi0, hz0, hz1, hz2⟩ := info_parts info_i
  clear hb hw1 n0 n1 h1 h2 hcs i1 i2 hx hpos hE hs0 hbs hne hks s1 s10
  go_wp2_with fail
  go_loopw [11, 12] (fun u i wr => ∃ (k : Nat) (out : List Int), k ≤ ls.length ∧ i = .int .i64 k ∧ Hid (wr.ownsRow w1.heap.size 3 1 u out.length (out.map (Value.int .i64 ·))) ∧ Hid (Below w1.heap.size w1 wr) ∧ Hid (∃ c, (∀ i, i < k → OtherAt st.toNat ls a.toNat t b.toNat x i (c i)) ∧ out = numsL c k)) (fun _ i _ => ls.length - (intOf i).toNat)
  case atStart => exact ⟨0, [], Nat.zero_le _, rfl, Lib.hid (World.ownsRow_nil _ _ _ _), Lib.hid (Below.refl _ _), Lib.hid ⟨fun _ => false, fun i hi => by omega, rfl⟩⟩
  case round =>
    obtain ⟨k, out, hk, rfl, hO, hB, hT⟩ := hrel
    clear q0 q1
    obtain ⟨n0, n1, _, hw3⟩ := HA.out wr (HD1.out.trans (hB.out.mono HD1.out.size))
    have q0 := cellH n0 0
    have q1 := cellH n0 1
    simp at q0 q1
    have HBw := Lib.hid hw3
    have HN1 := Lib.hid n1
    clear n0 n1 hw3
    by_cases hkl : k < ls.length
    · have hki : (k : Int) < ls.length := by omega
      have hk0 : (0 : Int) ≤ k := by omega
      have hol : out.length ≤ 40 := by obtain ⟨c, _, h⟩ := hT.out; have := numsL_len c k; rw [h]; omega
      have HWs := Lib.hid (HSh.out k hkl l40 wr HBw.out)
      have HEl := Lib.hid (wayE_less hkl HE.out)
      have HKL := Lib.hid hkl
      go_wp2_with fail
      refine HWs.out.mono ?_
      rintro e w3 ⟨gg, cap, rfl, hN3, hb3⟩
      have HAr := Lib.hid (HCS.out k gg cap w3 HKL.out hN3)
      have HB3 := Lib.hid (hB.out.trans (hb3.mono hB.out.size))
      have HO3 := Lib.hid (row_below hO.out hb3)
      clear hN3 hb3
      unfold ntV
      go_wp2_with fail
      refine HAr.out.mono ?_
      rintro e w4 ⟨z, q4, rfl, hb4, _, h4⟩
      obtain ⟨at2, by2, j1, j2, hcase⟩ := h4 HEl.out
      have HB4 := Lib.hid (HB3.out.trans (hb4.mono HB3.out.size))
      have hO4 := row_below HO3.out hb4
      have HT2 : Hid (∀ d : Bool, d = decide (at0 at2 b.toNat ≠ x) → ∃ c, (∀ i, i < k + 1 → OtherAt st.toNat ls a.toNat t b.toNat x i (c i)) ∧ (if d = true then out ++ [(k : Int)] else out) = numsL c (k + 1)) := Lib.hid (fun d hd => by
        obtain ⟨c, hc, ho⟩ := hT.out
        refine ⟨fun i => if i = k then d else c i, fun i hi => ?_, ?_⟩
        · by_cases e : i = k
          · subst e; simp only [if_true]; exact ⟨at2, by2, j1, j2, hd⟩
          · simp only [if_neg e]; exact hc i (by omega)
        · rw [numsL_succ, numsL_congr (d := c) (fun i hi => if_neg (by omega)), ← ho]
          simp only [if_true])
      have HXP : Hid (0 ≤ x) := Lib.hid (by rw [HX.out]; exact HP.out)
      obtain ⟨d, hd⟩ : ∃ d, decide (at0 at2 b.toNat ≠ x) = d := ⟨_, rfl⟩
      have HT3 := Lib.hid (HT2.out d hd.symm)
      have hbase : w1.heap.size ≤ w4.heap.size := HB4.out.size
      have hq4 : (q4 = 5 ∧ d = true) ∨ (q4 = 0 ∧ (z != x) = d) := by
        rcases hcase with ⟨c1, _, c3⟩ | ⟨_, c2, c3⟩
        · left
          refine ⟨c3, ?_⟩
          rw [← hd]
          have := HXP.out
          exact decide_eq_true (by omega)
        · right
          refine ⟨c3, ?_⟩
          rw [← hd, c2]
          by_cases e : at0 at2 b.toNat = x
          · simp [e]
          · simp [e]
      clear h4 hb4 j1 j2 hcase HT2 hd
      rcases hq4 with ⟨rfl, rfl⟩ | ⟨rfl, hzx⟩
      · have HT4 := Lib.hid (by simpa using HT3.out : ∃ c, (∀ i, i < k + 1 → OtherAt st.toNat ls a.toNat t b.toNat x i (c i)) ∧ out ++ [(k : Int)] = numsL c (k + 1))
        have h63 : out.length + 1 ≤ maxLen := by unfold maxLen; omega
        have hby : (out.length + 1) * 8 ≤ 140737488355328 := by omega
        clear HT3
        go_wp2_with (at_builtin; refine wpList_append_own _ rfl _ _ 35 rfl w1.heap.size 3 i0 (.int .i64 0) 1 8 Try.underlying35 hi0 hz0 hz1 hz2 rfl (by decide) _ _ _ rfl (World.ownsRow.alloc hO4 _) ⟨w4.heap.size, 0, none⟩ 1 1 [.int .i64 k] rfl rfl (fun j u h => cell_one' _ _ _ j u h) (by simp [Value.oneCell']) h63 hby (by simp; omega) ?_; intro v' w5 hown' hgrow _)
        have HB5 : Hid (Below w1.heap.size w1 w5) := Lib.hid ((HB4.out.alloc hbase _).grown hgrow (by simp; omega) (fun j e => (World.ownsRow.lt hO4 j e).1))
        have HO5 : Hid (w5.ownsRow w1.heap.size 3 1 v' (out ++ [(k : Int)]).length ((out ++ [(k : Int)]).map (Value.int .i64 ·))) := Lib.hid (by
          rw [List.length_append, List.map_append]; exact hown')
        clear hown' hgrow hO4
        go_roundw
        case rel => exact ⟨k + 1, out ++ [(k : Int)], by omega, by go_num, HO5, HB5, HT4⟩
        case measure => simp [intOf]; omega
      · cases d
        · have HT4 := Lib.hid (by simpa using HT3.out : ∃ c, (∀ i, i < k + 1 → OtherAt st.toNat ls a.toNat t b.toNat x i (c i)) ∧ out = numsL c (k + 1))
          have HO4 := Lib.hid hO4
          clear hO4 HT3
          go_wp2_with fail
          go_roundw
          case rel => exact ⟨k + 1, out, by omega, by go_num, HO4, HB4, HT4⟩
          case measure => simp [intOf]; omega
        · have HT4 := Lib.hid (by simpa using HT3.out : ∃ c, (∀ i, i < k + 1 → OtherAt st.toNat ls a.toNat t b.toNat x i (c i)) ∧ out ++ [(k : Int)] = numsL c (k + 1))
          have h63 : out.length + 1 ≤ maxLen := by unfold maxLen; omega
          have hby : (out.length + 1) * 8 ≤ 140737488355328 := by omega
          clear HT3
          go_wp2_with (at_builtin; refine wpList_append_own _ rfl _ _ 35 rfl w1.heap.size 3 i0 (.int .i64 0) 1 8 Try.underlying35 hi0 hz0 hz1 hz2 rfl (by decide) _ _ _ rfl (World.ownsRow.alloc hO4 _) ⟨w4.heap.size, 0, none⟩ 1 1 [.int .i64 k] rfl rfl (fun j u h => cell_one' _ _ _ j u h) (by simp [Value.oneCell']) h63 hby (by simp; omega) ?_; intro v' w5 hown' hgrow _)
          have HB5 : Hid (Below w1.heap.size w1 w5) := Lib.hid ((HB4.out.alloc hbase _).grown hgrow (by simp; omega) (fun j e => (World.ownsRow.lt hO4 j e).1))
          have HO5 : Hid (w5.ownsRow w1.heap.size 3 1 v' (out ++ [(k : Int)]).length ((out ++ [(k : Int)]).map (Value.int .i64 ·))) := Lib.hid (by
            rw [List.length_append, List.map_append]; exact hown')
          clear hown' hgrow hO4
          go_roundw
          case rel => exact ⟨k + 1, out ++ [(k : Int)], by omega, by go_num, HO5, HB5, HT4⟩
          case measure => simp [intOf]; omega
    · obtain rfl : ls.length = k := by omega
      obtain ⟨c, hc, ho⟩ := hT.out
      obtain ⟨ga, gc, rfl⟩ := row_form hO.out
      have hn1 := HN1.out
      have r0 := cellH hn1 0
      have r1 := cellH hn1 1
      have f0 := freeH hn1 0
      have f1 := freeH hn1 1
      simp at r0 r1
      have HR : Hid (((wr.setCell ⟨w.heap.size + 1, 0, none⟩ (.slice ga out.length gc)).setCell ⟨w.heap.size + 1, 1, none⟩ (.int .i64 0)).heap[w.heap.size + 1]? = some (.cells #[.slice ga out.length gc, .int .i64 0] 39 (0, 0))) := Lib.hid (set_pair hn1)
      have HBF := Lib.hid ((HBw.out.setCell (p := ⟨w.heap.size + 1, 0, none⟩) (by simp) (.slice ga out.length gc)).setCell (p := ⟨w.heap.size + 1, 1, none⟩) (by simp) (.int .i64 0))
      have HIN := Lib.hid (INRow.of_own (row_set3 (row_set3 hO.out hn1 tNeRI 0 (.slice ga out.length gc)) (heap_same hn1 0 _) tNeRI 1 (.int .i64 0)))
      rw [ho] at HIN HR HBF ⊢
      have HCc := Lib.hid hc
      clear hc ho hn1
      go_wp2_with fail
      refine bodyPost_ret (rN_results rfl HR.out) rfl ?_
      exact ⟨_, 0, rfl, HBF.out, fun h => absurd HE.out h, fun _ => ⟨at', by', HI.out, HS.out, .inr ⟨HP.out, rfl, c, by rw [← HX.out]; exact HCc.out, HIN.out⟩⟩⟩
end Go.Proofs.Ytiboolbndfhomaa
