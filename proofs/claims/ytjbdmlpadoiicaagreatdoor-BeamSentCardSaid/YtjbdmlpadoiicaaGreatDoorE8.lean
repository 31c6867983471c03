/- The search of package beam: what it lays into its map. -/
import Derived.Test.YtjbdmlpadoiicaaGreatDoorE5
import Derived.Test.YtjbdmlpadoiicaaGreatDoorZ1
import Derived.Test.YtjbdmlpadoiicaaGreatDoorW2
set_option linter.unusedVariables false
set_option linter.unusedSimpArgs false
namespace Go.Proofs.YtjbdmlpadoiicaaGreatDoor
open Go.RowKit Go.Shelf

/-- A map that holds these words, each with its number. -/
structure NRep (D : DataW Unit) (S : List (List UInt8 × Int)) : Prop where
  map : Maps.IsMap D
  has : ∀ x, Maps.has D (.string x) = true ↔ x ∈ S.map Prod.fst
  at' : ∀ p ∈ S, ∀ z, D.atKey (.string p.1) z = .lit (.int .i64 p.2)
theorem NRep.put {D : DataW Unit} {S : List (List UInt8 × Int)} (h : NRep D S) {x : List UInt8} {n : Int} (hx : x ∉ S.map Prod.fst) : NRep (D.put (.string x) (.lit (.int .i64 n))) (S ++ [(x, n)]) := by
  refine ⟨h.map.put _ _, fun y => ?_, fun p hp z => ?_⟩
  · rw [List.map_append, List.mem_append]
    by_cases e : y = x
    · subst e
      rw [Maps.has_put_same h.map (litKey _)]; simp
    · rw [Maps.has_put_other (fun k => e (Lit.string.inj k)), h.has]; simp [e]
  · rcases List.mem_append.1 hp with hp | hp
    · rw [Maps.atKey_put_other (fun k => hx (by rw [← Lit.string.inj k]; exact List.mem_map_of_mem hp))]
      exact h.at' p hp z
    · rw [List.mem_singleton.1 hp]
      exact Maps.atKey_put_same h.map (litKey _) _ _
def NMap (w : World) (b : Nat) (S : List (List UInt8 × Int)) : Prop := ∃ D, w.ownsMap Tryz.prog 9 (plainElem (H := Unit) Tryz.prog 3) b S.length D ∧ NRep D S
theorem NMap.start (w : World) : NMap (w.alloc (.map #[] 0)) w.heap.size [] :=
  ⟨_, World.ownsMap_made w Tryz.prog 9 (plainElem (H := Unit) Tryz.prog 3), Maps.isMap_empty, fun x => by rw [Maps.has_eq]; simp, fun p hp => by simp at hp⟩
theorem NMap.lt {w : World} {b : Nat} {S : List (List UInt8 × Int)} (h : NMap w b S) : b < w.heap.size := by obtain ⟨D, h, _⟩ := h; exact h.lt
theorem NMap.same {w w' : World} {b : Nat} {S : List (List UInt8 × Int)} (h : NMap w b S) (hb : w'.heap[b]? = w.heap[b]?) : NMap w' b S := by
  obtain ⟨D, ⟨es, clock, h1, h2⟩, h3⟩ := h
  exact ⟨D, ⟨es, clock, hb.trans h1, h2⟩, h3⟩
theorem NMap.keep {w w' : World} {base b : Nat} {bs : List Nat} {S : List (List UInt8 × Int)} (h : NMap w b S) (hk : KeepU base bs w w') (hb : b ∉ bs) : NMap w' b S := by
  refine h.same (hk.block b h.lt hb (.inr fun C fr e => ?_))
  obtain ⟨D, ⟨es, clock, h1, h2⟩, h3⟩ := h
  rw [e] at h1; cases h1
theorem int_wf {n : Int} (h0 : 0 ≤ n) (h1 : n ≤ 1000000) : (Lit.int .i64 n).wf = true := by
  show (decide ((-9223372036854775808 : Int) ≤ n) && decide (n ≤ 9223372036854775807)) = true
  rw [decide_eq_true (by omega), decide_eq_true (by omega)]; rfl
theorem KeepU.grown {base b : Nat} {bs : List Nat} {w w' : World} (hb : b ∈ bs) (h : w.grownBy w' (some b)) : KeepU base bs w w' :=
  ⟨h.os, h.tape, h.output, h.size, fun k hk hs _ => h.block k hk (fun e => hs (by cases e; exact hb))⟩
theorem sign_still (v : Int) (h0 : 0 ≤ v) (h1 : v ≤ 1000000) (w : World) : Calls Tryz.prog 62 #[.int .i64 v] w fun e w' => e = .returned (.string (B (signL v))) ∧ w' = w :=
  (sign_any v w h0 h1).mono fun e w' ⟨a, b⟩ => ⟨a, b.symm⟩
theorem Sheet.sent {w : World} {Sb base : Nat} {r : List UInt8} {most : Int} {sent : List UInt8} {T : Nat → Nat → Int} (h : Sheet w Sb base r most sent T) : ∃ a c, w.cell? ⟨Sb, 2, none⟩ = some (.slice a sent.length c) := by
  obtain ⟨C, sv, hh, hC, h0, h1, h2, hrow, hT⟩ := h.lay
  rcases hrow.2 with ⟨rfl, hn⟩ | ⟨g, cap, cur, rfl, _⟩
  · exact ⟨none, 0, by rw [cell_of_heap hh, h2, hn]⟩
  · exact ⟨_, _, by rw [cell_of_heap hh]; exact h2⟩

/-- Where the search's variables lie. -/
structure Vars (w : World) (Sb Mb Xs Xf Xg : Nat) : Prop where
  s : Boxed w Xs 118 (.pointer (some ⟨Sb, 0, none⟩))
  f : Boxed w Xf 79 (.map (some Mb))
  g : Boxed w Xg 124 (.func (.func 70) #[] #[.pointer (some ⟨Xs, 0, none⟩), .pointer (some ⟨Xf, 0, none⟩), .pointer (some ⟨Xg, 0, none⟩)])
  codes : Codes w
  codesIn : 0 < w.heap.size
  parts : Parts w
/-- How the blocks lie to each other. -/
structure Apart' (base Sb Mb Xs Xf Xg : Nat) : Prop where
  mb : Mb ≠ Sb
  xs : Xs ∉ [Sb, Mb]
  xf : Xf ∉ [Sb, Mb]
  xg : Xg ∉ [Sb, Mb]
  c1 : 0 < base
  c2 : 0 ∉ [Sb, Mb]
  p1 : 3 < base
  p2 : 3 ∉ [Sb, Mb]
theorem Vars.keep {w w' : World} {base Sb Mb Xs Xf Xg : Nat} (h : Vars w Sb Mb Xs Xf Xg) (ha : Apart' base Sb Mb Xs Xf Xg) (hk : KeepU base [Sb, Mb] w w') : Vars w' Sb Mb Xs Xf Xg :=
  ⟨hk.box (fr := (0, 0)) h.s (by decide) ha.xs, hk.box (fr := (0, 0)) h.f (by decide) ha.xf, hk.box (fr := (0, 0)) h.g (by decide) ha.xg, hk.codes h.codesIn ha.c1 ha.c2 h.codes, Nat.lt_of_lt_of_le h.codesIn hk.size, hk.parts ha.p1 ha.p2 h.parts⟩

set_option maxRecDepth 100000 in
set_option maxHeartbeats 2000000 in
theorem grow_b (r : List UInt8) (m : Int) (hm : 0 ≤ m ∧ m ≤ 2) (base Sb Mb Xs Xf Xg N : Nat) (hN1 : 1 ≤ N) (hN : N ≤ 10) (hA : Apart' base Sb Mb Xs Xf Xg) : ∀ (k : Nat) (word : List UInt8) (S : List (List UInt8 × Int)) (T : Nat → Nat → Int) (w : World) (a : Int) (so : ByteArray),
    word.length + k = N → word.all letB = true → Sheet w Sb base r m (spelt N word) T → Fit T m (spelt N word) r → Vars w Sb Mb Xs Xf Xg → NMap w Mb S → ((S ++ foundG m r word k).map Prod.fst).Nodup → (S ++ foundG m r word k).length ≤ 1000000 → a = (k : Int) → so = B word →
    Calls Tryz.prog 70 #[.string so, .int .i64 a, .pointer (some ⟨Xs, 0, none⟩), .pointer (some ⟨Xf, 0, none⟩), .pointer (some ⟨Xg, 0, none⟩)] w fun e w' => e = .returned (.tuple #[]) ∧
      (∃ x T', Sheet w' Sb base r m (spelt N word ++ x) T' ∧ Fit T' m (spelt N word ++ x) r) ∧ NMap w' Mb (S ++ foundG m r word k) ∧ KeepU base [Sb, Mb] w w' := by
  intro k
  induction k with
  | zero =>
    intro word S T w a so hl hall hS hF hV hM hnd hlen ha hso
    subst ha hso
    have hw : wordB word = true := by unfold wordB; rw [hall, decide_eq_true (by omega), decide_eq_true (by omega)]; rfl
    have hbs := hV.s.cell
    have hbf := hV.f.cell
    have HFin := Lib.hid (finish_any w Sb base r m (spelt N word) word T hw (by unfold spelt aheadL; rw [show word.length = N by omega]) hS hF (by omega) hV.codes hA.c1 (fun e => hA.c2 (by simp [e])) hV.parts hA.p1 (fun e => hA.p2 (by simp [e])))
    rw [foundG_zero] at hnd hlen ⊢
    have HV := Lib.hid hV; have HM := Lib.hid hM; have HND := Lib.hid hnd; have HLen := Lib.hid hlen; have HA := Lib.hid hA; have HW := Lib.hid (word_parts hw)
    clear hS hF hV hM hnd hlen hw hall hA hl
    go_enter Tryz.func70, Tryz.ntmps70
    go_wp2_with fail
    refine HFin.out.mono ?_
    rintro e w1 ⟨b, n, x, T', rfl, hS1, hF1, hK1, hyes, hno⟩
    have HS1 := Lib.hid hS1; have HF1 := Lib.hid hF1; have HK1 := Lib.hid hK1
    cases b
    · have he : entry m r word = [] := by
        unfold entry; rw [if_neg]
        exact fun h => hno rfl ((can_eT (by omega)).2 h)
      have HE := Lib.hid he
      clear hS1 hF1 hK1 hyes hno he
      go_wp2_with fail
      (try simp only [Exit.inBlock, Exit.then])
      refine bodyPost_ret (results_none rfl _ _ _) rfl ?_
      exact ⟨rfl, ⟨x, T', HS1.out, HF1.out⟩, by rw [HE.out, List.append_nil]; exact HM.out.keep HK1.out (by have := HA.out.mb; simpa using this), HK1.out.mono (by simp)⟩
    · have hy := hyes rfl
      have hcan := (can_eT (by omega)).1 hy.1
      have he : entry m r word = [(word, n)] := by unfold entry; rw [if_pos hcan, hy.2]
      have hn0 : 0 ≤ n ∧ n ≤ m := by
        rw [hy.2]; exact ⟨(eT_bd (s := signalL word) (r := r) _ 0 0 rfl (Nat.zero_le _)).1, hcan⟩
      obtain ⟨D, hown, hrep⟩ := HM.out.keep hK1 (by have := HA.out.mb; simpa using this)
      have hbx1 : Boxed w1 Xf 79 (.map (some Mb)) := hK1.box (fr := (0, 0)) HV.out.f (by decide) (by have := HA.out.xf; simp at this ⊢; exact this.1)
      have hbf1 := hbx1.cell
      have hobj : ∃ o : Obj, w1.heap[Mb]? = some o ∧ o.isCells = false := by obtain ⟨es, clock, h1, _⟩ := hown; exact ⟨_, h1, rfl⟩
      have HOB := Lib.hid hobj
      have hnd := HND.out; have hlen := HLen.out
      rw [he] at hnd hlen
      have hfresh : word ∉ S.map Prod.fst := by
        rw [List.map_append] at hnd
        have := (List.nodup_append.1 hnd).2.2
        intro hm; exact this _ hm word (by simp) rfl
      have hroom : S.length < maxLen := by simp at hlen; unfold maxLen; omega
      have hwl := HW.out.2.1
      have hkey : keyOf Tryz.prog 9 (.string (B word)) = some (.string word) := by
        have := WideMaps.keyOf_string_mk Tryz.underlying9 (s := B word) (by rw [size_B]; unfold maxLen; omega)
        rw [L_B] at this; exact this
      have hval : plainElem (H := Unit) Tryz.prog 3 (.int .i64 n) = some (.lit (.int .i64 n), []) := plainElem_int Tryz.underlying3 (int_wf (by omega) (by omega))
      have HO := Lib.hid hown; have HK := Lib.hid hkey; have HVl := Lib.hid hval; have HE := Lib.hid he; have HR := Lib.hid (hrep.put (n := n) hfresh)
      have HSx := Lib.hid (And.intro hS1 hF1)
      clear hbx1 hobj hS1 hF1 hK1 hyes hno he hy hcan hown hrep hnd hlen hfresh hkey hval
      go_wp2_with (at_mapUpdate; refine wpList_mapUpdate_own _ rfl _ _ _ 79 rfl 9 3 lawStr Tryz.underlying79 _ Mb S.length D rfl HO.out hroom _ _ (.string word) rfl rfl HK.out (.lit (.int .i64 n)) [] HVl.out ?_; intro w2 hown1 hgrow1)
      (try simp only [Exit.inBlock, Exit.then])
      refine bodyPost_ret (results_none rfl _ _ _) rfl ?_
      refine ⟨rfl, ⟨x, T', HSx.out.1.own hgrow1 (fun k e => by cases e; exact HOB.out), HSx.out.2⟩, ?_, (HK1.out.mono (by simp)).trans (KeepU.grown (by simp) hgrow1)⟩
      rw [HE.out]
      exact ⟨_, by rw [List.length_append]; exact hown1, HR.out⟩
  | succ k ih =>
    intro word S T w a so hl hall hS hF hV hM hnd hlen ha hso
    subst ha hso
    have hz : (((k + 1 : Nat) : Int) == 0) = false := by simp; omega
    have hz' : (((k : Int) + 1) == 0) = false := by simp; omega
    have hbs := hV.s.cell
    obtain ⟨sa, sc, hc2⟩ := hS.sent
    have hsl := hS.len
    rw [foundG_succ] at hnd hlen ⊢
    have HS := Lib.hid hS; have HF := Lib.hid hF; have HV := Lib.hid hV; have HM := Lib.hid hM; have HND := Lib.hid hnd; have HLen := Lib.hid hlen; have HA := Lib.hid hA; have HL := Lib.hid hl; have HAll := Lib.hid hall; have HI := Lib.hid ih
    have V97 : Hid (valI 97 = 1) := Lib.hid (by decide +kernel)
    have V122 : Hid (valI 122 = 26) := Lib.hid (by decide +kernel)
    have C97 := Lib.hid (fun w => value_any 97 w)
    have C122 := Lib.hid (fun w => value_any 122 w)
    rw [V97.out] at C97; rw [V122.out] at C122
    clear hS hF hV hM hnd hlen hall hA hl ih
    obtain ⟨sent, hsent⟩ : ∃ sent, spelt N word = sent := ⟨_, rfl⟩
    rw [hsent] at HS HF hc2 hsl ⊢
    have HSent := Lib.hid hsent
    clear hsent
    go_enter Tryz.func70, Tryz.ntmps70
    go_wp2_with fail
    refine (C97.out _).mono ?_
    rintro e w1 ⟨rfl, rfl⟩
    go_wp2_with fail
    go_loopw [10] (fun v wr => ∃ (i : Nat) (T' : Nat → Nat → Int), i ≤ 26 ∧ v = .int .i64 (i + 1) ∧ Hid (Sheet wr Sb base r m sent T') ∧ Hid (Fit T' m sent r) ∧ Hid (NMap wr Mb (S ++ foundK m r word k i)) ∧ Hid (KeepU base [Sb, Mb] w wr)) (fun v _ => 28 - (intOf v).toNat)
    case atStart => exact ⟨0, T, by omega, rfl, HS, HF, Lib.hid (by rw [foundK_zero, List.append_nil]; exact HM.out), Lib.hid (KeepU.refl _ _ _)⟩
    case round =>
      obtain ⟨i, T', hi, rfl, hSh, hFt, hMp, hK⟩ := hrel
      by_cases hlt : i < 26
      · have hVr := HV.out.keep HA.out hK.out
        have hi26 : (i : Int) + 1 ≤ 26 := by omega
        have hbs' := hVr.s.cell
        have hbsq : ∀ q, (wr.drewN q).cell? ⟨Xs, 0, none⟩ = some (.pointer (some ⟨Sb, 0, none⟩)) := fun _ => hbs'
        have hl1 : (flashL [ltr i]).length ≤ 6 := by have := flashL_length [ltr i]; simpa using this
        have hsl2 : sent.length ≤ 70 := by
          rw [← HSent.out]
          have := flashL_length (signL N ++ word)
          have := HL.out
          unfold spelt; rw [List.length_append, signL_length] at *; omega
        have HSp := Lib.hid (fun q => spell_any (wr.drewN q) Sb base r m sent [ltr i] T' (hSh.out.keep (below_drewN (Below.refl _ _) q)) hFt.out (by omega) (by simp) (fun c hc => by
          rw [List.mem_singleton.1 hc]; have := valI_let_bd _ (ltr_let hlt); omega) (by omega) hVr.codes HA.out.c1 (fun e => HA.out.c2 (by simp [e])) hVr.parts HA.out.p1 (fun e => HA.out.p2 (by simp [e])))
        have HSg := Lib.hid (sign_still ((i : Int) + 1) (by omega) (by omega))
        rw [ltr_sign i hlt] at HSg
        have HVr := Lib.hid hVr
        clear hVr hl1 hsl2
        go_wp2_with fail
        refine (C122.out _).mono ?_
        rintro e w1 ⟨rfl, rfl⟩
        go_wp2_with fail
        refine wp_still_tail1 3 (by kernel_rfl) (by kernel_rfl) ?_
        simp only [List.take_succ_cons, List.take_zero, List.drop_succ_cons, List.drop_zero]
        iterate 2 still_step
        still_call (HSg.out _)
        refine wpStill_nil ?_
        go_wp2_with fail
        refine (HSp.out 1).mono ?_
        rintro e w4 ⟨b, sent', T2, rfl, hS4, hF4, hK4, hyes, hno⟩
        have hKq : KeepU base [Sb, Mb] wr (wr.drewN 1) := KeepU.of_below (below_drewN (Below.refl _ _) 1)
        have hKa := hKq.trans (hK4.mono (bs := [Sb]) (cs := [Sb, Mb]) (by simp))
        have HV4 := Lib.hid (HVr.out.keep HA.out hKa)
        have hMb1 : Mb ∉ [Sb] := by have := HA.out.mb; simpa using this
        have HMb1 := Lib.hid hMb1
        have HM4 := Lib.hid ((hMp.out.same (w' := wr.drewN 1) rfl).keep hK4 hMb1)
        have HK4 := Lib.hid (hK.out.trans hKa)
        have hbs4 := HV4.out.s.cell
        have HS4 := Lib.hid hS4; have HF4 := Lib.hid hF4
        cases b
        · have HFN : Hid (foundG m r (word ++ [ltr i]) k = []) := Lib.hid (foundG_none (by omega) (fun t => by
            have e : (word ++ [ltr i]).length + k = N := by have := HL.out; simp; omega
            rw [e, spelt_snoc, HSent.out, List.append_assoc]; exact hno rfl t))
          have HCut := Lib.hid (scut_any w4 Sb base r m sent sent' T2 sent.length hS4 hF4 rfl)
          clear hS4 hF4 hK4 hyes hno hKq hKa hMb1
          go_wp2_with fail
          refine HCut.out.mono ?_
          rintro e w5 ⟨rfl, hS5, hF5, hK5⟩
          have HS5 := Lib.hid hS5; have HF5 := Lib.hid hF5; have HK5 := Lib.hid hK5
          clear hS5 hF5 hK5
          go_wp2_with fail
          go_roundw
          case rel => exact ⟨i + 1, T2, by omega, by go_num, HS5, HF5, Lib.hid (by rw [foundK_succ, HFN.out, List.append_nil]; exact HM4.out.keep HK5.out HMb1.out), Lib.hid (HK4.out.trans (HK5.out.mono (by simp)))⟩
          case measure => simp [intOf]; omega
        · have hs4 := hyes rfl
          subst hs4
          have hwl : (word ++ [ltr i]).length + k = N := by have := HL.out; simp; omega
          have hpre : foundK m r word k (i + 1) <+: foundK m r word k 26 := foundK_pre m r word k (by omega)
          have e1 : S ++ foundK m r word k i ++ foundG m r (word ++ [ltr i]) k = S ++ foundK m r word k (i + 1) := by rw [foundK_succ, List.append_assoc]
          have hndi : ((S ++ foundK m r word k i ++ foundG m r (word ++ [ltr i]) k).map Prod.fst).Nodup := by
            rw [e1]
            obtain ⟨t, ht⟩ := hpre
            have := HND.out
            rw [← ht, ← List.append_assoc, List.map_append] at this
            exact (List.nodup_append.1 this).1
          have hleni : (S ++ foundK m r word k i ++ foundG m r (word ++ [ltr i]) k).length ≤ 1000000 := by
            rw [e1]
            have := hpre.length_le
            have := HLen.out
            simp only [List.length_append] at *; omega
          have hsp : spelt N (word ++ [ltr i]) = sent ++ flashL [ltr i] := by rw [spelt_snoc, HSent.out]
          have HIH := Lib.hid (fun (q : Nat) (a : Int) (ha : a = (k : Int)) => HI.out (word ++ [ltr i]) (S ++ foundK m r word k i) T2 (w4.drewN q) a (B word ++ B [ltr i]) hwl (by rw [List.all_append, HAll.out]; simp [ltr_let hlt])
            (by rw [hsp]; exact hS4.keep (below_drewN (Below.refl _ _) q)) (by rw [hsp]; exact hF4) (HV4.out.keep HA.out (KeepU.of_below (below_drewN (Below.refl _ _) q))) (HM4.out.same rfl) hndi hleni ha (by rw [← B_add]))
          have hcg : ∀ q, (w4.drewN q).cell? ⟨Xg, 0, none⟩ = some (.func (.func 70) #[] #[.pointer (some ⟨Xs, 0, none⟩), .pointer (some ⟨Xf, 0, none⟩), .pointer (some ⟨Xg, 0, none⟩)]) := fun _ => HV4.out.g.cell
          have hwl10 : ¬ 9223372036854775807 < word.length + 1 := by have := HL.out; omega
          have hwr : IntKind.i64.wrap ((k : Int) + 1 - 1) = k := by rw [show (k : Int) + 1 - 1 = k by omega]; exact IntWalk.i64_in _ (by have := HL.out; omega)
          have HWR := Lib.hid hwr
          have HE1 := Lib.hid e1; have HSP := Lib.hid hsp
          clear hS4 hF4 hK4 hyes hno hKq hKa hMb1 hndi hleni hsp e1 hpre hwr
          go_wp2_with fail
          refine wp_still_tail1 7 (by kernel_rfl) (by kernel_rfl) ?_
          simp only [List.take_succ_cons, List.take_zero, List.drop_succ_cons, List.drop_zero]
          iterate 3 still_step
          still_call (HSg.out _)
          iterate 3 still_step
          refine wpStill_nil ?_
          go_wp2_with fail
          refine (HIH.out 1 _ (by first | rfl | exact HWR.out | exact IntWalk.i64_in _ (by have := HL.out; omega))).mono ?_
          rintro e w6 ⟨rfl, ⟨x, T6, hS6, hF6⟩, hM6, hK6⟩
          rw [HSP.out, List.append_assoc] at hS6 hF6
          have hK46 : KeepU base [Sb, Mb] w4 w6 := (KeepU.of_below (below_drewN (Below.refl _ _) 1)).trans hK6
          have hbs6 := (HV4.out.keep HA.out hK46).s.cell
          have HCut := Lib.hid (scut_any w6 Sb base r m sent (flashL [ltr i] ++ x) T6 sent.length hS6 hF6 rfl)
          have HM6 := Lib.hid hM6; have HK6 := Lib.hid (HK4.out.trans hK46)
          clear hS6 hF6 hM6 hK6 hK46
          go_wp2_with fail
          refine HCut.out.mono ?_
          rintro e w5 ⟨rfl, hS5, hF5, hK5⟩
          have HS5 := Lib.hid hS5; have HF5 := Lib.hid hF5; have HK5 := Lib.hid hK5
          clear hS5 hF5 hK5
          go_wp2_with fail
          go_roundw
          case rel => exact ⟨i + 1, T6, by omega, by go_num, HS5, HF5, Lib.hid (by rw [← HE1.out]; exact HM6.out.keep HK5.out HMb1.out), Lib.hid (HK6.out.trans (HK5.out.mono (by simp)))⟩
          case measure => simp [intOf]; omega
      · obtain rfl : i = 26 := by omega
        go_wp2_with fail
        refine (C122.out _).mono ?_
        rintro e w1 ⟨rfl, rfl⟩
        go_wp2_with fail
        (try simp only [Exit.inBlock, Exit.then])
        refine bodyPost_end (results_none rfl _ _ _) rfl ?_
        exact ⟨rfl, ⟨[], T', by rw [List.append_nil]; exact hSh.out, by rw [List.append_nil]; exact hFt.out⟩, hMp.out, hK.out⟩
end Go.Proofs.YtjbdmlpadoiicaaGreatDoor

/-! readings of package beam. -/
namespace Go.Proofs.YtjbdmlpadoiicaaGreatDoor
open Go.RowKit Go.Shelf

theorem spelt_nil (n : Nat) : spelt n [] = flashL (signL n) := by unfold spelt; rw [List.append_nil]
theorem valI_signs {n : Nat} (h : n ≤ 10) : ∀ c ∈ signL n, 0 ≤ valI c := by
  have : ∀ n : Fin 11, ∀ c ∈ signL ((n : Nat) : Int), 0 ≤ valI c := by decide +kernel
  exact this ⟨n, by omega⟩

set_option maxRecDepth 100000 in
set_option maxHeartbeats 2000000 in
theorem readings_any (r : List UInt8) (m : Int) (hm : 0 ≤ m ∧ m ≤ 2) (hr : r.length ≤ 100) (hcard : (foundL m r 10).length ≤ 1000000) (w : World) (hE : Env w) (hP : Parts w) :
    Calls Tryz.prog 33 #[.string (B r), .int .i64 m] w fun e w' => ∃ Mb, e = .returned (.map (some Mb)) ∧ NMap w' Mb (foundL m r 10) ∧ Below w.heap.size w w' ∧ w.heap.size ≤ Mb := by
  have hP1 : 3 < w.heap.size := by obtain ⟨fr, h⟩ := hP; exact (Array.getElem?_eq_some_iff.1 h).1
  have hC1 := hE.2
  have HE := Lib.hid hE; have HP := Lib.hid hP; have HC := Lib.hid hcard
  clear hE hP hcard
  go_enter Tryz.func33, Tryz.ntmps33
  have hmm := @run_makeMap Tryz.prog
  go_wp2_with fail
  refine (newSheet_any _ _ _).mono ?_
  rintro e w1 ⟨rfl, hb, C, hh, C', hC, hS⟩
  have hSt := Sheet.start hh hC hS hr
  clear hh hC hS
  simp only [World.size_alloc] at hb hSt
  have hz1 : w.heap.size + 3 ≤ w1.heap.size := by
    have := hSt.below; have := hSt.small; omega
  have hbw : Below w.heap.size w w1 := (((Below.refl _ w).alloc (Nat.le_refl _) _).alloc (by simp) _).trans (hb.mono (by omega))
  have hM0 : NMap w1 w.heap.size [] := by
    refine (NMap.start w).same ?_
    rw [hb.block _ (by omega)]
    exact Below.heap_alloc _ _ _ (by simp)
  have hf0 : Boxed w1 (w.heap.size + 1) 79 (.map (some w.heap.size)) := by
    have := Boxed.new (w.alloc (.map #[] 0)) 79 (.map (some w.heap.size))
    rw [World.size_alloc] at this
    exact (hb.block _ (by omega)).trans this
  go_wp2_with fail
  obtain ⟨W2, hW2⟩ : ∃ W2, ((w1.alloc (.cells #[.pointer (some ⟨w.heap.size + 1 + 1, 0, none⟩)] 118)).alloc (.cells #[.func (.func 70) #[] #[.pointer (some ⟨w1.heap.size, 0, none⟩), .pointer (some ⟨w.heap.size + 1, 0, none⟩), .pointer (some ⟨w1.heap.size + 1, 0, none⟩)]] 124)) = W2 := ⟨_, rfl⟩
  rw [hW2]
  have hz2 : W2.heap.size = w1.heap.size + 2 := by rw [← hW2]; simp
  have hb2 : Below w1.heap.size w1 W2 := by rw [← hW2]; exact ((Below.refl _ w1).alloc (Nat.le_refl _) _).alloc (by simp) _
  have hV2 : Vars W2 (w.heap.size + 2) w.heap.size w1.heap.size (w.heap.size + 1) (w1.heap.size + 1) := by
    have hbw2 : Below w.heap.size w W2 := hbw.trans (hb2.mono (by omega))
    refine ⟨?_, (hb2.block _ (by omega)).trans hf0, ?_, fun v hv => (hbw2.cell (p := ⟨_, v, none⟩) hC1).trans (HE.out.1 v hv), by omega, ?_⟩
    · rw [← hW2]; exact (Boxed.new w1 _ _).alloc _
    · rw [← hW2]
      have := Boxed.new (w1.alloc (.cells #[.pointer (some ⟨w.heap.size + 1 + 1, 0, none⟩)] 118)) 124 (.func (.func 70) #[] #[.pointer (some ⟨w1.heap.size, 0, none⟩), .pointer (some ⟨w.heap.size + 1, 0, none⟩), .pointer (some ⟨w1.heap.size + 1, 0, none⟩)])
      rw [World.size_alloc] at this; exact this
    · obtain ⟨fr, h⟩ := HP.out; exact ⟨fr, (hbw2.block _ hP1).trans h⟩
  have hA : Apart' w1.heap.size (w.heap.size + 2) w.heap.size w1.heap.size (w.heap.size + 1) (w1.heap.size + 1) := by
    refine ⟨by omega, ?_, ?_, ?_, by omega, ?_, by omega, ?_⟩ <;> (simp only [List.mem_cons, List.not_mem_nil, or_false]; omega)
  have hM2 := hM0.same (hb2.block _ (by omega : w.heap.size < w1.heap.size))
  have hS2 := hSt.keep hb2
  have HB2 := Lib.hid (hbw.trans (hb2.mono (by omega)))
  have HA := Lib.hid hA; have HV2 := Lib.hid hV2; have HM2 := Lib.hid hM2; have HS2 := Lib.hid hS2
  have HZ1 := Lib.hid hz1; have HZ2 := Lib.hid hz2
  obtain ⟨Q1, hQ1⟩ : ∃ Q1, w1.heap.size = Q1 := ⟨_, rfl⟩
  rw [hQ1] at HA HV2 HS2 HZ1 HZ2 ⊢
  clear hW2 hA hV2 hM2 hS2 hM0 hf0 hb hb2 hSt hbw hz1 hz2 hmm hQ1
  go_loopw [8] (fun v wr => ∃ (i : Nat) (T' : Nat → Nat → Int), i ≤ 10 ∧ v = .int .i64 (i + 1) ∧ Hid (Sheet wr (w.heap.size + 2) Q1 r m [] T') ∧ Hid (Fit T' m [] r) ∧ Hid (NMap wr w.heap.size (foundL m r i)) ∧ Hid (KeepU Q1 [w.heap.size + 2, w.heap.size] W2 wr)) (fun v _ => 12 - (intOf v).toNat)
  case atStart => exact ⟨0, T0, by omega, rfl, HS2, Lib.hid (Fit.start m r), HM2, Lib.hid (KeepU.refl _ _ _)⟩
  case round =>
    obtain ⟨i, T', hi, rfl, hSh, hFt, hMp, hK⟩ := hrel
    have hVr := HV2.out.keep HA.out hK.out
    have hbs' := hVr.s.cell
    have hbf' := hVr.f.cell
    by_cases hlt : i < 10
    · have hi10 : (i : Int) + 1 ≤ 10 := by omega
      have hbsq : ∀ q, (wr.drewN q).cell? ⟨Q1, 0, none⟩ = some (.pointer (some ⟨w.heap.size + 2, 0, none⟩)) := fun _ => hbs'
      have hl1 : (flashL (signL ((i : Int) + 1))).length ≤ 6 := by have := flashL_length (signL ((i : Int) + 1)); simpa using this
      have HSp := Lib.hid (fun q => spell_any (wr.drewN q) (w.heap.size + 2) Q1 r m [] (signL ((i : Int) + 1)) T' (hSh.out.keep (below_drewN (Below.refl _ _) q)) hFt.out (by rw [List.length_nil]; omega) (by rw [signL_length]; omega) (valI_signs (n := i + 1) (by omega)) (by omega) hVr.codes HA.out.c1 (fun e => HA.out.c2 (List.mem_cons.2 (.inl e))) hVr.parts HA.out.p1 (fun e => HA.out.p2 (List.mem_cons.2 (.inl e))))
      have HSg := Lib.hid (sign_still ((i : Int) + 1) (by omega) (by omega))
      have HVr := Lib.hid hVr
      clear hVr hl1
      go_wp2_with fail
      refine wp_still_tail1 3 (by kernel_rfl) (by kernel_rfl) ?_
      simp only [List.take_succ_cons, List.take_zero, List.drop_succ_cons, List.drop_zero]
      iterate 2 still_step
      still_call (HSg.out _)
      refine wpStill_nil ?_
      go_wp2_with fail
      refine (HSp.out 1).mono ?_
      rintro e w4 ⟨b, sent', T2, rfl, hS4, hF4, hK4, hyes, hno⟩
      have hKq : KeepU Q1 [w.heap.size + 2, w.heap.size] wr (wr.drewN 1) := KeepU.of_below (below_drewN (Below.refl _ _) 1)
      have hKa := hKq.trans (hK4.mono (cs := [w.heap.size + 2, w.heap.size]) (by simp))
      have HV4 := Lib.hid (HVr.out.keep HA.out hKa)
      have HMb1 : Hid (w.heap.size ∉ [w.heap.size + 2]) := Lib.hid (by simp)
      have HM4 := Lib.hid ((hMp.out.same (w' := wr.drewN 1) rfl).keep hK4 HMb1.out)
      have HK4 := Lib.hid (hK.out.trans hKa)
      have hbs4 := HV4.out.s.cell
      have hbg4 := HV4.out.g.cell
      have HS4 := Lib.hid hS4; have HF4 := Lib.hid hF4
      cases b
      · have HFN : Hid (foundG m r [] (i + 1) = []) := Lib.hid (foundG_none (by omega) (fun t => by
          rw [show ([] : List UInt8).length + (i + 1) = i + 1 by simp, spelt_nil]; have := hno rfl t; simpa using this))
        have HCut := Lib.hid (scut_any w4 (w.heap.size + 2) Q1 r m [] sent' T2 0 hS4 hF4 rfl)
        clear hS4 hF4 hK4 hyes hno hKq hKa
        go_wp2_with fail
        refine HCut.out.mono ?_
        rintro e w5 ⟨rfl, hS5, hF5, hK5⟩
        have HS5 := Lib.hid hS5; have HF5 := Lib.hid hF5; have HK5 := Lib.hid hK5
        clear hS5 hF5 hK5
        go_wp2_with fail
        go_roundw
        case rel => exact ⟨i + 1, T2, by omega, by go_num, HS5, HF5, Lib.hid (by rw [foundL_succ, HFN.out, List.append_nil]; exact HM4.out.keep HK5.out HMb1.out), Lib.hid (HK4.out.trans (HK5.out.mono (by simp)))⟩
        case measure => simp [intOf]; omega
      · have hs4 := hyes rfl
        subst hs4
        have hpre : foundL m r i ++ foundG m r [] (i + 1) <+: foundL m r 10 := by
          rw [← foundL_succ]
          have : ∀ d, foundL m r (i + 1) <+: foundL m r (i + 1 + d) := fun d => by
            induction d with
            | zero => exact List.prefix_refl _
            | succ d ih => exact ih.trans ⟨_, (foundL_succ m r (i + 1 + d)).symm⟩
          have h10 := this (10 - (i + 1))
          rwa [show i + 1 + (10 - (i + 1)) = 10 by omega] at h10
        have hndi : ((foundL m r i ++ foundG m r [] (i + 1)).map Prod.fst).Nodup := by
          obtain ⟨t, ht⟩ := hpre
          have := found_nodup m r
          rw [← ht, List.map_append] at this
          exact (List.nodup_append.1 this).1
        have hleni : (foundL m r i ++ foundG m r [] (i + 1)).length ≤ 1000000 := Nat.le_trans hpre.length_le HC.out
        have hsp : spelt (i + 1) [] = [] ++ flashL (signL ((i : Int) + 1)) := by rw [spelt_nil]; simp
        have HIH := Lib.hid (grow_b r m hm Q1 (w.heap.size + 2) w.heap.size Q1 (w.heap.size + 1) (Q1 + 1) (i + 1) (by omega) (by omega) HA.out (i + 1) [] (foundL m r i) T2 w4 ((i : Int) + 1) ⟨#[]⟩ (by simp) rfl
          (by rw [hsp]; exact hS4) (by rw [hsp]; exact hF4) HV4.out HM4.out hndi hleni (by omega) rfl)
        have HSP := Lib.hid hsp
        clear hS4 hF4 hK4 hyes hno hKq hKa hndi hleni hsp hpre
        go_wp2_with fail
        refine HIH.out.mono ?_
        rintro e w6 ⟨rfl, ⟨x, T6, hS6, hF6⟩, hM6, hK6⟩
        rw [HSP.out, List.append_assoc] at hS6 hF6
        have hbs6 := (HV4.out.keep HA.out hK6).s.cell
        have HCut := Lib.hid (scut_any w6 (w.heap.size + 2) Q1 r m [] (flashL (signL ((i : Int) + 1)) ++ x) T6 0 hS6 hF6 rfl)
        have HM6 := Lib.hid hM6; have HK6 := Lib.hid (HK4.out.trans hK6)
        clear hS6 hF6 hM6 hK6
        go_wp2_with fail
        refine HCut.out.mono ?_
        rintro e w5 ⟨rfl, hS5, hF5, hK5⟩
        have HS5 := Lib.hid hS5; have HF5 := Lib.hid hF5; have HK5 := Lib.hid hK5
        clear hS5 hF5 hK5
        go_wp2_with fail
        go_roundw
        case rel => exact ⟨i + 1, T6, by omega, by go_num, HS5, HF5, Lib.hid (by rw [foundL_succ]; exact HM6.out.keep HK5.out HMb1.out), Lib.hid (HK6.out.trans (HK5.out.mono (by simp)))⟩
        case measure => simp [intOf]; omega
    · obtain rfl : i = 10 := by omega
      clear hVr
      go_wp2_with fail
      go_ret
      refine ⟨w.heap.size, rfl, hMp.out, ?_, Nat.le_refl _⟩
      have hk := hK.out
      refine HB2.out.trans ⟨hk.os, hk.tape, hk.output, hk.size, fun k hk2 => hk.block k (Nat.lt_of_lt_of_le hk2 HB2.out.size) (by simp; omega) (.inl (by have := HZ1.out; omega))⟩
end Go.Proofs.YtjbdmlpadoiicaaGreatDoor
