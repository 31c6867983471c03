/- The walk of BeamSent. -/
import Derived.Test.YtjbdmlpadoiicaaGreatDoorY18
set_option linter.unusedVariables false
set_option linter.unusedSimpArgs false
namespace Go.Proofs.YtjbdmlpadoiicaaGreatDoor
open Go.RowKit Go.Shelf

set_option maxRecDepth 100000 in
set_option maxHeartbeats 40000000 in
theorem sent_main (x : List UInt8) (a : Option Addr) (cap : Nat) (l : List Flt) (a2 : Option Addr) (cap2 : Nat) (bk : List (List UInt8)) (W : World) (HG : Hid (Glob W)) (HT : Hid (Tz W)) (MS : Hid ((B x).size ≤ maxLen)) (MX : Hid (x.length ≤ maxLen)) (HV : Hid (FRow W (.slice a l.length cap) l)) (HU : Hid (SRow W (.slice a2 bk.length cap2) bk)) (HM : Hid (∀ s ∈ bk, s.length ≤ maxLen)) (HCP : Hid (∀ a n c, Value.slice a2 bk.length cap2 = .slice a n c → n ≤ c)) (hll : bk.length ≤ 9223372036854775807)
    (h1 : ¬ 5 < x.length) (h3 : ¬ 2 < l.length) (hw : wordB x = true) (hf : faultedE (signalL x) l = 0) :
    Calls Tryz.prog 6 #[.string (B x), .slice a l.length cap, .slice a2 bk.length cap2] W fun e w' => e = .returned (.bool true) ∧ Below W.heap.size W w' := by
  have g1 : ¬ (5 : Int) < x.length := by omega
  have g3 : ¬ (2 : Int) < l.length := by omega
  have mll : l.length ≤ 1000000 := by omega
  have SA : Hid (signalV (B x).data.toList = .tuple #[.string (B (signalL x)), .int .i64 0]) := Lib.hid (by rw [L_B]; unfold signalV; rw [if_pos hw])
  have MSA : Hid ((B (signalL x)).size ≤ maxLen) := Lib.hid (by
    have h3 := flashE_le' (signal_flash hw)
    rw [size_B]; unfold maxLen; omega)
  obtain ⟨hre, hcan⟩ := sent_facts hw (by omega) (by omega) hf
  have HF : Hid (faultedV (B (signalL x)).data.toList l = .tuple #[.string (B (faultedL (signalL x) l)), .int .i64 0]) := Lib.hid (by rw [L_B]; unfold faultedV; rw [if_pos hf])
  obtain ⟨r, hr⟩ : ∃ r, faultedL (signalL x) l = r := ⟨_, rfl⟩
  rw [hr] at HF hre hcan
  have HE := Lib.hid hre
  have HIN : Hid ((x, eT (signalL x) r 0 0) ∈ foundL l.length r 10) := Lib.hid (mem_found.2 ⟨hw, (can_eT (by omega)).1 hcan, rfl⟩)
  have HXR : Hid (r ∈ resL (signalL x) l.length) := Lib.hid (can_res hcan)
  have HCD := Lib.hid (found_card (m := l.length) (r := r) (by omega) (by have := (resE_ok hre).1; omega))
  have HOT : Hid (∀ y, (∃ n, (y, n) ∈ foundL l.length r 10) → r ∈ resL (signalL y) l.length) := Lib.hid (fun y ⟨n, h⟩ => can_res ((can_eT (by omega)).2 (mem_found.1 h).2.1))
  have hml : l.length ≤ 2 := by omega
  obtain ⟨sg, hsg⟩ : ∃ sg, signalL x = sg := ⟨_, rfl⟩
  rw [hsg] at SA MSA HF
  have hrm := @run_makeMap Tryz.prog
  clear hf hr hre hcan hsg h1 h3 hw
  go_enter Tryz.func6, Tryz.ntmps6
  go_wp2_with fail
  refine (head_any _ HG.out).mono ?_
  rintro e v1 ⟨rfl, hb⟩
  have HB := Lib.hid hb
  clear hb
  go_wp2_with fail
  refine (signal_any _ _ MS.out (HG.out.below HB.out).env.1 (HG.out.below HB.out).env.2).mono ?_
  rintro e v2 ⟨rfl, hb⟩
  rw [SA.out]
  have HB2 := Lib.hid (HB.out.trans (hb.mono HB.out.size))
  clear hb
  go_wp2_with fail
  refine (faulted_any _ _ l _ MSA.out (HV.out.keep HB2.out) mll).mono ?_
  rintro e v3 ⟨rfl, hb⟩
  rw [HF.out]
  have HB3 := Lib.hid (HB2.out.trans (hb.mono HB2.out.size))
  clear hb
  go_wp2_with fail
  refine (Readings_ok r l.length v3 HE.out (HG.out.below HB3.out)).mono ?_
  rintro e v4 ⟨u1, L, rfl, hP, hL, hmem, hb⟩
  have HB4 := Lib.hid (HB3.out.trans (hb.mono HB3.out.size))
  obtain ⟨a3, cap3, rfl, hc3⟩ := hP.form
  have HP := Lib.hid hc3
  have HBD : Hid (∀ k, k < L.length → (L.getD k ([], 0)).2 ≤ l.length ∧ (L.getD k ([], 0)).1.length ≤ 10) := Lib.hid (fun k hk => list_bd (fun p hp => (hmem p).1 hp) hk)
  have HST : Hid (∀ k, k + 1 < L.length → (L.getD k ([], 0)).2 ≤ (L.getD (k + 1) ([], 0)).2) := Lib.hid (fun k hk => list_up hL hk)
  have hLL : L.length ≤ 1000000 := by have := list_card hL hmem; have := HCD.out; omega
  have HMEM : Hid (∀ y, y ∈ L.map Prod.fst ↔ ∃ n, (y, n) ∈ foundL l.length r 10) := Lib.hid (fun y => by
    constructor
    · intro h
      obtain ⟨⟨a, n⟩, hp, rfl⟩ := List.mem_map.1 h
      exact ⟨n, (hmem _).1 hp⟩
    · rintro ⟨n, h⟩
      exact List.mem_map.2 ⟨(y, n), (hmem _).2 h, rfl⟩)
  clear hP hL hb hc3 hmem hml
  go_wp2_with fail
  go_loopw [15] (fun i wr => ∃ k : Nat, k ≤ L.length ∧ i = .int .i64 k ∧ Hid (SetAt wr v4.heap.size ((L.map Prod.fst).take k)) ∧ Hid (Below v4.heap.size v4 wr)) (fun i _ => L.length - (intOf i).toNat)
  case atStart => exact ⟨0, Nat.zero_le _, rfl, Lib.hid (by rw [List.take_zero]; exact SetAt.start v4), Lib.hid ((Below.refl _ _).alloc (Nat.le_refl _) _)⟩
  case round =>
    clear hrm
    obtain ⟨k, hk, rfl, hS, hB⟩ := hrel
    by_cases hkl : k < L.length
    · obtain ⟨b, rfl, hb, h0, h1⟩ := HP.out k hkl
      obtain ⟨hbd1, hbd2⟩ := HBD.out k hkl
      have hki : (k : Int) < L.length := by omega
      have hk0 : (0 : Int) ≤ k := by omega
      have HTK : Hid ((L.map Prod.fst).take (k + 1) = (L.map Prod.fst).take k ++ [(L.getD k ([], 0)).1]) := Lib.hid (by
        rw [List.take_succ_eq_append_getElem (by simpa using hkl), List.getElem_map, List.getD_eq_getElem?_getD, List.getElem?_eq_getElem hkl]; rfl)
      obtain ⟨y, hy⟩ : ∃ y, (L.getD k ([], 0)).1 = y := ⟨_, rfl⟩
      obtain ⟨n, hn⟩ : ∃ n, (L.getD k ([], 0)).2 = n := ⟨_, rfl⟩
      rw [hy] at h0 hbd2 HTK
      rw [hn] at h1 hbd1
      have c0 : wr.cell? ⟨b, k * 2, none⟩ = some (.string (B y)) := by rw [Nat.mul_comm]; exact (hB.out.cell (p := ⟨b, 2 * k, none⟩) hb).trans h0
      have q1 : decide ((l.length : Int) < n) = false := decide_eq_false (by omega)
      have HC1 : Hid (∀ w', Below v4.heap.size v4 w' → w'.cell? ⟨b, k * 2 + 1, none⟩ = some (.int .i64 n)) := Lib.hid fun w' h => by
        rw [Nat.mul_comm]; exact (h.cell (p := ⟨b, 2 * k + 1, none⟩) hb).trans h1
      have HKy : Hid (keyOf Tryz.prog 9 (.string (B y)) = some (.string y)) := Lib.hid (by
        have := WideMaps.keyOf_string_mk Tryz.underlying9 (s := B y) (by rw [size_B]; unfold maxLen; omega)
        rw [L_B] at this; exact this)
      have HVB := Lib.hid (plainElem_bool (H := Unit) Tryz.underlying4 true)
      have hrm : ((L.map Prod.fst).take k).length < maxLen := by simp only [List.length_take, List.length_map]; unfold maxLen; omega
      clear h0 h1 hb hbd1 hbd2 hy
      by_cases hz : k = 0
      · subst hz
        clear hn
        have hb0 : (0 : Int) < L.length := by omega
        go_wp2_with (at_mapUpdate; refine wpList_mapUpdate_own _ rfl _ _ _ 59 rfl 9 4 lawStr Tryz.underlying59 _ v4.heap.size _ _ rfl hS.out hrm _ _ (.string y) rfl rfl HKy.out (.lit (.bool true)) [] HVB.out ?_; intro w5 hown5 hgrow5)
        have HS5 := Lib.hid (SetAt.of hown5)
        have HB5 := Lib.hid (hB.out.grown hgrow5 (by have := hB.out.size; omega) (fun k e => by cases e; omega))
        have d1 := HC1.out w5 HB5.out
        clear hown5 hgrow5
        go_frame
        go_quiet (fail)
        go_wp2_with fail
        go_roundw
        case rel => exact ⟨1, by omega, by go_num, Lib.hid (by rw [HTK.out]; exact HS5.out.drawn _), Lib.hid (below_drewN HB5.out _)⟩
        case measure => simp [intOf]; omega
      · obtain ⟨j, rfl⟩ : ∃ j, k = j + 1 := ⟨k - 1, by omega⟩
        obtain ⟨b', eb, hb', p0, p1⟩ := HP.out j (by omega)
        have hup := HST.out j (by omega)
        obtain ⟨n', hn'⟩ : ∃ n', (L.getD j ([], 0)).2 = n' := ⟨_, rfl⟩
        rw [hn'] at p1 hup
        rw [hn] at hup
        have q2 : decide ((n : Int) < n') = false := decide_eq_false (by omega)
        have hj0 : (0 : Int) < (j : Int) + 1 := by omega
        have hjl : (j : Int) < L.length := by omega
        have HC2 : Hid (∀ w', Below v4.heap.size v4 w' → w'.cell? ⟨b, j * 2 + 1, none⟩ = some (.int .i64 n')) := Lib.hid fun w' h => by
          rw [Nat.mul_comm]; cases eb; exact (h.cell (p := ⟨b, 2 * j + 1, none⟩) hb').trans p1
        clear p0 p1 hb' hup hn' eb
        go_wp2_with (at_mapUpdate; refine wpList_mapUpdate_own _ rfl _ _ _ 59 rfl 9 4 lawStr Tryz.underlying59 _ v4.heap.size _ _ rfl hS.out hrm _ _ (.string y) rfl rfl HKy.out (.lit (.bool true)) [] HVB.out ?_; intro w5 hown5 hgrow5)
        have HS5 := Lib.hid (SetAt.of hown5)
        have HB5 := Lib.hid (hB.out.grown hgrow5 (by have := hB.out.size; omega) (fun k e => by cases e; omega))
        have d1 := HC1.out w5 HB5.out
        have d2 := HC2.out w5 HB5.out
        clear hown5 hgrow5
        go_frame
        go_quiet (fail)
        go_wp2_with fail
        go_roundw
        case rel => exact ⟨j + 1 + 1, by omega, by go_num, Lib.hid (by rw [HTK.out]; exact HS5.out.drawn _), Lib.hid (below_drewN HB5.out _)⟩
        case measure => simp [intOf]; omega
    · obtain rfl : k = L.length := by omega
      have hS' : SetAt wr v4.heap.size (L.map Prod.fst) := by have := hS.out; rwa [List.take_of_length_le (by simp)] at this
      have HB5 : Hid (Below W.heap.size W wr) := Lib.hid (HB4.out.trans (hB.out.mono HB4.out.size))
      have hlk := hS'.look x MX.out
      rw [decide_eq_true ((HMEM.out x).2 ⟨_, HIN.out⟩)] at hlk
      have HS := Lib.hid hS'
      clear hS hB hS' HP HBD HST
      go_wp2_with fail
      refine (book_any _ bk _ (HU.out.keep HB5.out) hll).mono ?_
      rintro e v6 ⟨rfl, rfl⟩
      cases hbk : bookB bk
      · go_wp2_with fail
        go_ret
        exact ⟨rfl, HB5.out⟩
      have hlen : bk.length ≤ 4 ∨ (8 < bk.length ∧ bk.length ≤ 20) := by
        unfold bookB at hbk
        simp only [Bool.and_eq_true, Bool.or_eq_true, decide_eq_true_eq] at hbk
        exact hbk.2
      by_cases hq : booksE bk l.length = 0
      case neg =>
        have HAP := Lib.hid (Apart_err _ bk l.length wr (HU.out.keep HB5.out) HCP.out HM.out (by omega) hq)
        obtain ⟨q, hqq⟩ : ∃ q, booksE bk l.length = q := ⟨_, rfl⟩
        rw [hqq] at hq HAP
        have hqz : (q == 0) = false := by simpa using hq
        have hqn : (q != 0) = true := by simpa using hq
        clear hbk hlen hq hqq hlk
        go_wp2_with fail
        refine HAP.out.mono ?_
        rintro e v7 ⟨rfl, hb⟩
        have HB6 := Lib.hid (HB5.out.trans (hb.mono HB5.out.size))
        clear hb
        go_wp2_with fail
        go_ret
        exact ⟨rfl, HB6.out⟩
      have h4 : bk.length ≤ 4 := by
        rcases hlen with h | ⟨h, _⟩
        · exact h
        · exfalso
          unfold booksE orI bookE at hq
          rw [if_pos h] at hq
          simp at hq
      have HAP := Lib.hid (Apart_ok _ bk l.length wr (HU.out.keep HB5.out) HCP.out HM.out h4 hq (HG.out.below HB5.out).env (HT.out.below HB5.out))
      clear hbk hlen hq hlk
      cases ho : apartO (bookC bk l.length) bk.length with
      | some p =>
        have HAV : Hid (apartV (apartO (bookC bk l.length) bk.length) = .tuple #[.int .i64 p.1, .int .i64 p.2, .bool true, .int .i64 0]) := Lib.hid (by rw [ho]; rfl)
        clear ho
        go_wp2_with fail
        refine HAP.out.mono ?_
        rintro e v7 ⟨rfl, hb⟩
        rw [HAV.out]
        have HB6 := Lib.hid (HB5.out.trans (hb.mono HB5.out.size))
        clear hb
        go_wp2_with fail
        go_ret
        exact ⟨rfl, HB6.out⟩
      | none =>
        have HAV : Hid (apartV (apartO (bookC bk l.length) bk.length) = .tuple #[.int .i64 0, .int .i64 0, .bool false, .int .i64 0]) := Lib.hid (by rw [ho]; rfl)
        have HO := Lib.hid ho
        clear ho
        go_wp2_with fail
        refine HAP.out.mono ?_
        rintro e v7 ⟨rfl, hb⟩
        rw [HAV.out]
        have HB6 := Lib.hid (HB5.out.trans (hb.mono HB5.out.size))
        have HS6 : Hid (SetAt v7 v4.heap.size (L.map Prod.fst)) := Lib.hid (World.ownsMap.kept HS.out (row := none) ⟨hb.os, hb.tape, hb.output, hb.size, fun k hk _ => hb.block k hk⟩ (by simp))
        obtain ⟨a5, cap5, e5, hcu⟩ := HU.out.form
        cases e5
        have HCU := Lib.hid hcu
        clear hb hcu HS HB5
        go_wp2_with fail
        go_loopw [20, 21, 22] (fun o c i ws => ∃ (k n : Nat) (ib : Bool), k ≤ bk.length ∧ i = .int .i64 k ∧ o = .bool ib ∧ c = .int .i64 n ∧ n ≤ k ∧ Hid (ib = true → x ∈ bk) ∧ Hid (x ∈ bk → n = 0) ∧ Hid (SetAt ws v4.heap.size (L.map Prod.fst)) ∧ Hid (Below W.heap.size W ws)) (fun _ _ i _ => bk.length - (intOf i).toNat)
        case atStart => exact ⟨0, 0, false, Nat.zero_le _, rfl, rfl, rfl, Nat.le_refl _, Lib.hid (fun h => by cases h), Lib.hid (fun _ => rfl), HS6, HB6⟩
        case round =>
          obtain ⟨k, n, ib, hk, rfl, rfl, rfl, hnk, hI, hX, hS, hB⟩ := hrel
          by_cases hkl : k < bk.length
          · obtain ⟨g, off, rfl, hg, c0⟩ := HCU.out k hkl
            have hki : (k : Int) < bk.length := by omega
            have hk0 : (0 : Int) ≤ k := by omega
            have c1 := (hB.out.cell (p := ⟨g, _, none⟩) hg).trans c0
            have hym : bk.getD k [] ∈ bk := getD_mem hkl
            obtain ⟨y, hy⟩ : ∃ y, bk.getD k [] = y := ⟨_, rfl⟩
            rw [hy] at c1 hym
            have hlk := hS.out.look y (HM.out y hym)
            have HSd := Lib.hid (fun q => hS.out.drawn q)
            have hni : n ≤ 4 := by omega
            clear c0 hy
            by_cases hyx : y = x
            · subst hyx
              have HI2 := Lib.hid hym
              have hlkq : ∀ q, (Instr.lookup 59 (.map (some v4.heap.size)) (.string (B y)) false).run Tryz.prog (wr.drewN q) = .ok (.bool (decide (y ∈ L.map Prod.fst))) (wr.drewN q) := fun q => (show SetAt (wr.drewN q) _ _ from hS.out.drawn q).look y (HM.out y HI2.out)
              clear hym
              cases ib
              · go_wp2_with fail
                go_roundw
                case rel => exact ⟨k + 1, n, true, by omega, by go_num, rfl, rfl, by omega, Lib.hid (fun _ => HI2.out), hX, hS, hB⟩
                case measure => simp [intOf]; omega
              · go_wp2_with fail
                go_roundw
                case rel => exact ⟨k + 1, n, true, by omega, by go_num, rfl, rfl, by omega, Lib.hid (fun _ => HI2.out), hX, hS, hB⟩
                case measure => simp [intOf]; omega
            · have hne : (y == x) = false := by simpa using hyx
              have hne2 : (y != x) = true := by simpa using hyx
              have hlkq : ∀ q, (Instr.lookup 59 (.map (some v4.heap.size)) (.string (B y)) false).run Tryz.prog (wr.drewN q) = .ok (.bool (decide (y ∈ L.map Prod.fst))) (wr.drewN q) := fun q => (show SetAt (wr.drewN q) _ _ from hS.out.drawn q).look y (HM.out y hym)
              have HAL : Hid (y ∈ L.map Prod.fst → x ∈ bk → False) := Lib.hid (fun h1 h2 => alone h4 HO.out h2 hym hyx HXR.out (HOT.out y ((HMEM.out y).1 h1)))
              clear hym hyx
              by_cases hd : y ∈ L.map Prod.fst
              · have HN : Hid (x ∈ bk → n + 1 = 0) := Lib.hid (fun h => (HAL.out hd h).elim)
                rw [decide_eq_true hd] at hlk hlkq
                clear hd HAL
                cases ib
                · go_wp2_with fail
                  go_roundw
                  case rel => exact ⟨k + 1, n + 1, false, by omega, by go_num, rfl, by go_num, by omega, hI, HN, hS, hB⟩
                  case measure => simp [intOf]; omega
                · go_wp2_with fail
                  go_roundw
                  case rel => exact ⟨k + 1, n + 1, true, by omega, by go_num, rfl, by go_num, by omega, hI, HN, hS, hB⟩
                  case measure => simp [intOf]; omega
              · rw [decide_eq_false hd] at hlk hlkq
                clear hd HAL
                cases ib
                · go_wp2_with fail
                  go_roundw
                  case rel => exact ⟨k + 1, n, false, by omega, by go_num, rfl, rfl, by omega, hI, hX, hS, hB⟩
                  case measure => simp [intOf]; omega
                · go_wp2_with fail
                  go_roundw
                  case rel => exact ⟨k + 1, n, true, by omega, by go_num, rfl, rfl, by omega, hI, hX, hS, hB⟩
                  case measure => simp [intOf]; omega
          · obtain rfl : k = bk.length := by omega
            cases ib
            · go_wp2_with fail
              go_ret
              exact ⟨rfl, hB.out⟩
            · obtain rfl : n = 0 := hX.out (hI.out rfl)
              go_wp2_with fail
              go_ret
              exact ⟨rfl, hB.out⟩

set_option maxRecDepth 100000 in
set_option maxHeartbeats 4000000 in
theorem sent_law (xb : ByteArray) (v : Value) (l : List Flt) (u : Value) (bk : List (List UInt8)) (W : World) (hG : Glob W) (hT : Tz W) (mx : xb.size ≤ maxLen) (hv : FRow W v l) (_hcv : ∀ a n c, v = .slice a n c → n ≤ c) (hu : SRow W u bk) (hm : ∀ s ∈ bk, s.length ≤ maxLen) (hcap : ∀ a n c, u = .slice a n c → n ≤ c) (hcm : ∀ a n c, u = .slice a n c → c ≤ maxLen) :
    Calls Tryz.prog 6 #[.string xb, v, u] W fun e w' => e = .returned (.bool true) ∧ Below W.heap.size W w' := by
  obtain ⟨x, rfl⟩ : ∃ s, xb = B s := ⟨_, (B_L xb).symm⟩
  have hll : bk.length ≤ 9223372036854775807 := by
    obtain ⟨a, cap, e, _⟩ := hu.form
    have h1 := hcap _ _ _ e
    have h2 := hcm _ _ _ e
    unfold maxLen at h2; omega
  have HG := Lib.hid hG
  have HV := Lib.hid hv
  have HU := Lib.hid hu
  have HT := Lib.hid hT
  have HM := Lib.hid hm
  have HCP := Lib.hid hcap
  have MS := Lib.hid mx
  have MX : Hid (x.length ≤ maxLen) := Lib.hid (by rwa [size_B] at mx)
  obtain ⟨a, cap, rfl, _⟩ := hv.form
  obtain ⟨a2, cap2, rfl, hcu⟩ := hu.form
  clear hG hT mx hv hu hm hcap hcm hcu
  by_cases h1 : 5 < x.length
  · have g1 : (5 : Int) < x.length := by omega
    go_enter Tryz.func6, Tryz.ntmps6
    go_wp2_with fail
    refine (head_any _ HG.out).mono ?_
    rintro e v1 ⟨rfl, hb⟩
    have HB := Lib.hid hb
    clear hb
    go_wp2_with fail
    go_ret
    exact ⟨rfl, HB.out⟩
  have g1 : ¬ (5 : Int) < x.length := by omega
  by_cases h3 : 2 < l.length
  · have g3 : (2 : Int) < l.length := by omega
    go_enter Tryz.func6, Tryz.ntmps6
    go_wp2_with fail
    refine (head_any _ HG.out).mono ?_
    rintro e v1 ⟨rfl, hb⟩
    have HB := Lib.hid hb
    clear hb
    go_wp2_with fail
    go_ret
    exact ⟨rfl, HB.out⟩
  have g3 : ¬ (2 : Int) < l.length := by omega
  have mll : l.length ≤ 1000000 := by omega
  by_cases hw : wordB x = true
  case neg =>
    have SA : Hid (signalV (B x).data.toList = .tuple #[.string ⟨#[]⟩, .int .i64 7]) := Lib.hid (by rw [L_B]; unfold signalV; rw [if_neg hw])
    obtain ⟨pq, fe, hfq⟩ : ∃ (p : ByteArray) (e : Int), faultedV (ByteArray.mk #[]).data.toList l = .tuple #[.string p, .int .i64 e] := by
      unfold faultedV
      split
      · exact ⟨_, _, rfl⟩
      · exact ⟨_, _, rfl⟩
    have HF := Lib.hid hfq
    clear hw hfq
    go_enter Tryz.func6, Tryz.ntmps6
    go_wp2_with fail
    refine (head_any _ HG.out).mono ?_
    rintro e v1 ⟨rfl, hb⟩
    have HB := Lib.hid hb
    clear hb
    go_wp2_with fail
    refine (signal_any _ _ MS.out (HG.out.below HB.out).env.1 (HG.out.below HB.out).env.2).mono ?_
    rintro e v2 ⟨rfl, hb⟩
    rw [SA.out]
    have HB2 := Lib.hid (HB.out.trans (hb.mono HB.out.size))
    clear hb
    go_wp2_with fail
    refine (faulted_any _ _ l _ (by unfold maxLen; decide) (HV.out.keep HB2.out) mll).mono ?_
    rintro e v3 ⟨rfl, hb⟩
    rw [HF.out]
    have HB3 := Lib.hid (HB2.out.trans (hb.mono HB2.out.size))
    clear hb
    go_wp2_with fail
    go_ret
    exact ⟨rfl, HB3.out⟩
  have SA : Hid (signalV (B x).data.toList = .tuple #[.string (B (signalL x)), .int .i64 0]) := Lib.hid (by rw [L_B]; unfold signalV; rw [if_pos hw])
  have MSA : Hid ((B (signalL x)).size ≤ maxLen) := Lib.hid (by
    have h3 := flashE_le' (signal_flash hw)
    rw [size_B]; unfold maxLen; omega)
  by_cases hf : faultedE (signalL x) l = 0
  case neg =>
    have HF : Hid (faultedV (B (signalL x)).data.toList l = .tuple #[.string ⟨#[]⟩, .int .i64 (faultedE (signalL x) l)]) := Lib.hid (by rw [L_B]; unfold faultedV; rw [if_neg hf])
    obtain ⟨q, hq⟩ : ∃ q, faultedE (signalL x) l = q := ⟨_, rfl⟩
    rw [hq] at hf HF
    have hqz : (q == 0) = false := by simpa using hf
    have hqn : (q != 0) = true := by simpa using hf
    obtain ⟨sg, hsg⟩ : ∃ sg, signalL x = sg := ⟨_, rfl⟩
    rw [hsg] at SA MSA HF
    clear hf hq hw hsg
    go_enter Tryz.func6, Tryz.ntmps6
    go_wp2_with fail
    refine (head_any _ HG.out).mono ?_
    rintro e v1 ⟨rfl, hb⟩
    have HB := Lib.hid hb
    clear hb
    go_wp2_with fail
    refine (signal_any _ _ MS.out (HG.out.below HB.out).env.1 (HG.out.below HB.out).env.2).mono ?_
    rintro e v2 ⟨rfl, hb⟩
    rw [SA.out]
    have HB2 := Lib.hid (HB.out.trans (hb.mono HB.out.size))
    clear hb
    go_wp2_with fail
    refine (faulted_any _ _ l _ MSA.out (HV.out.keep HB2.out) mll).mono ?_
    rintro e v3 ⟨rfl, hb⟩
    rw [HF.out]
    have HB3 := Lib.hid (HB2.out.trans (hb.mono HB2.out.size))
    clear hb
    go_wp2_with fail
    go_ret
    exact ⟨rfl, HB3.out⟩
  exact sent_main x a cap l a2 cap2 bk W HG HT MS MX HV HU HM HCP hll h1 h3 hw hf
end Go.Proofs.YtjbdmlpadoiicaaGreatDoor
