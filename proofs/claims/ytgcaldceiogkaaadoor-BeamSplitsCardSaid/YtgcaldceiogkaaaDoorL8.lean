/- The walk of BeamSplits. (Written by tools/genL8.py.) -/
import Derived.Test.YtgcaldceiogkaaaDoorG0
import Derived.Test.YtgcaldceiogkaaaDoorU3
import Derived.Test.YtgcaldceiogkaaaDoorS8
import Derived.Test.YtgcaldceiogkaaaDoorL7
namespace Go.Proofs.YtgcaldceiogkaaaDoor
open Go.RowKit Go.Shelf

/-- What Split answers, with an error or without. -/
def SplitForm (w : World) (s : List UInt8) (e : Ending) (w' : World) : Prop :=
  ∃ (v : Value) (P : List (List UInt8)) (R : List UInt8), e = .returned (.tuple #[v, .string (B R), .int .i64 (flashE s 4000)]) ∧ SRow w' v P ∧ Below w.heap.size w w' ∧ (flashE s 4000 = 0 → P.flatten ++ R = s) ∧
    (∀ p ∈ P, 2 ≤ p.length ∧ p.drop (p.length - 2) = [47, 47]) ∧ P.flatten.length ≤ s.length ∧ P.length ≤ s.length ∧ R.length ≤ s.length
theorem Split_form (s : List UInt8) (w : World) (hs : s.length ≤ maxLen) (hM : Mx w) :
    Calls Tryd.prog 23 #[.string (B s)] w (SplitForm w s) := by
  by_cases hE : flashE s 4000 = 0
  · refine (Split_ok s w hE hM).mono ?_
    rintro e w' ⟨v, rfl, hv, hb⟩
    have hf := splitN_flat s.length s
    have hc := splitN_count s.length s
    have hl := congrArg List.length hf
    rw [List.length_append] at hl
    refine ⟨v, _, _, by rw [hE]; rfl, hv, hb, fun _ => hf, fun p hp => splitN_ends _ _ p hp, ?_, ?_, ?_⟩
    · unfold splitP; omega
    · unfold splitP; omega
    · omega
  · refine (Split_err (B s) w (by rw [size_B]; exact hs) (by rw [L_B]; exact hE)).mono ?_
    rintro e w' ⟨rfl, rfl⟩
    exact ⟨_, [], [], by rw [L_B]; rfl, SRow.nil _, Below.refl _ _, fun h => absurd h hE, by simp, by simp, by simp, by simp⟩
theorem ownsRow_below {w w' : World} {base size n : Nat} {e : TypeId} {v : Value} {xs : List Value} (h : w.ownsRow base e size v n xs) (hb : Below w.heap.size w w') : w'.ownsRow base e size v n xs := by
  refine ⟨h.1, ?_⟩
  rcases h.2 with hn | ⟨g, cap, cur, hv, hg, hgb, rest⟩
  · exact .inl hn
  · exact .inr ⟨g, cap, cur, hv, hg, (hb.block g (Array.getElem?_eq_some_iff.1 hgb).1).trans hgb, rest⟩
theorem flatten_take_len (P : List (List UInt8)) (k : Nat) : (P.take k).flatten.length ≤ P.flatten.length := by
  conv => rhs; rw [← List.take_append_drop k P, List.flatten_append]
  simp
theorem filter_take (ws : List (List UInt8)) (k : Nat) (h : k < ws.length) : ((ws.take (k + 1)).filter wordB).map signalL = ((ws.take k).filter wordB).map signalL ++ (if wordB ws[k] then [signalL ws[k]] else []) := by
  rw [List.take_succ_eq_append_getElem h, List.filter_append, List.map_append]
  congr 1
  cases hw : wordB ws[k] <;> simp [hw]

set_option maxRecDepth 100000 in
set_option maxHeartbeats 8000000 in
theorem splits_law (ab bb : ByteArray) (wv : Value) (ws : List (List UInt8)) (W : World) (hG : Glob W) (hM : Mx W) (ma : ab.size ≤ maxLen) (mb : bb.size ≤ maxLen) (hv : SRow W wv ws) (hm : ∀ s ∈ ws, s.length ≤ maxLen) (_ : ∀ a n c, wv = .slice a n c → n ≤ c) :
    Calls Tryd.prog 9 #[.string ab, .string bb, wv] W fun e w' => e = .returned (.bool true) ∧ Below W.heap.size W w' := by
  obtain ⟨a, rfl⟩ : ∃ s, ab = B s := ⟨_, (B_L ab).symm⟩
  obtain ⟨b, rfl⟩ : ∃ s, bb = B s := ⟨_, (B_L bb).symm⟩
  have HG := Lib.hid hG
  have HM := Lib.hid hM
  have HV := Lib.hid hv
  have HWL := Lib.hid hm
  have MA := Lib.hid ma
  have MB := Lib.hid mb
  obtain ⟨wa, wcap, rfl, _⟩ := hv.form
  clear hG hM hv hm ma mb
  by_cases h1 : 1500 < a.length
  · have g1 : (1500 : Int) < a.length := by omega
    go_enter Tryd.func9, Tryd.ntmps9
    go_wp2_with fail
    refine (head_any _ HG.out).mono ?_
    rintro e v1 ⟨rfl, hb⟩
    have HB := Lib.hid hb
    clear hb
    go_wp2_with fail
    go_ret
    exact ⟨rfl, HB.out⟩
  have g1 : ¬ (1500 : Int) < a.length := by omega
  by_cases h2 : 1500 < b.length
  · have g2 : (1500 : Int) < b.length := by omega
    go_enter Tryd.func9, Tryd.ntmps9
    go_wp2_with fail
    refine (head_any _ HG.out).mono ?_
    rintro e v1 ⟨rfl, hb⟩
    have HB := Lib.hid hb
    clear hb
    go_wp2_with fail
    go_ret
    exact ⟨rfl, HB.out⟩
  have g2 : ¬ (1500 : Int) < b.length := by omega
  by_cases h3 : 8 < ws.length
  · have g3 : (8 : Int) < ws.length := by omega
    go_enter Tryd.func9, Tryd.ntmps9
    go_wp2_with fail
    refine (head_any _ HG.out).mono ?_
    rintro e v1 ⟨rfl, hb⟩
    have HB := Lib.hid hb
    clear hb
    go_wp2_with fail
    go_ret
    exact ⟨rfl, HB.out⟩
  have g3 : ¬ (8 : Int) < ws.length := by omega
  have hal : a.length ≤ maxLen := by unfold maxLen; omega
  have MAL := Lib.hid hal
  have mab : (B a ++ B b).size ≤ maxLen := by rw [B_app, size_B]; unfold maxLen; simp only [List.length_append]; omega
  have MAB := Lib.hid mab
  have LAB : Hid ((B a ++ B b).data.toList = a ++ b) := Lib.hid (by rw [B_app, L_B])
  obtain ⟨i0, hi, hz0, hz1, hz2⟩ := info_parts info_strS
  clear hal mab
  go_enter Tryd.func9, Tryd.ntmps9
  go_wp2_with fail
  refine (head_any _ HG.out).mono ?_
  rintro e v1 ⟨rfl, hb⟩
  have HB := Lib.hid hb
  clear hb
  go_wp2_with fail
  refine (Split_form a _ MAL.out (HM.out.below HB.out)).mono ?_
  rintro e v2 ⟨x, P, R, rfl, hx, hb, hfl, hends, hpf, hpl, hrl⟩
  obtain ⟨q, eq⟩ : ∃ q, flashE a 4000 = q := ⟨_, rfl⟩
  rw [eq] at hfl ⊢
  have HQ := Lib.hid eq
  have HFL := Lib.hid hfl
  have HEN := Lib.hid hends
  have HB2 := Lib.hid (HB.out.trans (hb.mono HB.out.size))
  obtain ⟨xa, xcap, rfl, hxc⟩ := hx.form
  have HXC := Lib.hid hxc
  clear hb eq hfl hends hx hxc
  go_wp2_with fail
  go_loopw [11, 12] (fun wh i wr => ∃ k : Nat, k ≤ P.length ∧ i = .int .i64 k ∧ wh = .string (B (P.take k).flatten) ∧ Hid (Below v2.heap.size v2 wr)) (fun _ i _ => P.length - (intOf i).toNat)
  case atStart => exact ⟨0, Nat.zero_le _, rfl, rfl, Lib.hid (Below.refl _ _)⟩
  case round =>
    obtain ⟨k, hk, rfl, rfl, hBr⟩ := hrel
    have hft := flatten_take_len P k
    by_cases hlt : k < P.length
    · have hft2 := flatten_take_len P (k + 1)
      rw [List.take_succ_eq_append_getElem hlt, List.flatten_append, List.length_append] at hft2
      simp only [List.flatten_cons, List.flatten_nil, List.append_nil] at hft2
      obtain ⟨g, off, rfl, hg, c0⟩ := HXC.out k hlt
      have hlti : (k : Int) < P.length := by omega
      have hk0 : (0 : Int) ≤ k := by omega
      have c1 := (hBr.out.cell (p := ⟨g, _, none⟩) hg).trans c0
      have ex : P.getD k [] = P[k] := by rw [List.getD_eq_getElem?_getD, List.getElem?_eq_getElem hlt]; rfl
      have HT : Hid ((P.take (k + 1)).flatten = (P.take k).flatten ++ P[k]) := Lib.hid (by rw [List.take_succ_eq_append_getElem hlt, List.flatten_append]; simp)
      obtain ⟨y, hy⟩ : ∃ y, P[k] = y := ⟨_, rfl⟩
      have hye := HEN.out P[k] (List.getElem_mem hlt)
      rw [hy] at hye hft2 HT ex
      rw [ex] at c1
      have hy2 : (2 : Int) ≤ y.length := by omega
      have htl : ∀ W', (Instr.slice 9 (.string (B y)) (some (.int .i64 ((y.length : Int) - 2))) none none).run Tryd.prog W' = .ok (.string ⟨#[47, 47]⟩) W' := fun W' => by
        rw [tail_run W' y (y.length - 2) (by omega) _ (by omega), hye.2]; rfl
      obtain ⟨pk, epk⟩ : ∃ pk, (P.take k).flatten = pk := ⟨_, rfl⟩
      rw [epk] at hft hft2 HT ⊢
      have ha1 : ¬ 9223372036854775807 < pk.length + y.length := by omega
      have HWR := Lib.hid (IntWalk.i64_in ((y.length : Int) - 2) (by omega))
      have hd2 : decide ((y.length : Int) < 2) = false := decide_eq_false (by omega)
      clear c0 ex hye hy epk
      go_wp2_with fail
      have hwo := HWR.out
      go_quiet (fail)
      clear hwo
      go_wp2_with fail
      go_roundw
      case rel => exact ⟨k + 1, by omega, by go_num, by rw [HT.out, B_app], Lib.hid (below_drewN hBr.out _)⟩
      case measure => simp [intOf]; omega
    · obtain rfl : k = P.length := by omega
      rw [List.take_length] at hft ⊢
      have HB3 := Lib.hid (HB2.out.trans (hBr.out.mono HB2.out.size))
      have ha2 : ¬ 9223372036854775807 < P.flatten.length + R.length := by omega
      have ha3 : ¬ 9223372036854775807 < a.length + b.length := by omega
      obtain ⟨pf, epf⟩ : ∃ pf, P.flatten = pf := ⟨_, rfl⟩
      rw [epf] at HFL hft hpf ha2 ⊢
      clear hBr epf
      by_cases hq0 : q = 0
      · have hT : B pf ++ B R = B a := by rw [B_app, HFL.out hq0]
        have hFA : flashE a 4000 = 0 := HQ.out.trans hq0
        have TA : Hid (timeV (B a).data.toList = .tuple #[.int .i64 (costK a a.length), .int .i64 0]) := Lib.hid (by rw [L_B]; unfold timeV; rw [if_pos hFA])
        have hca := costK_bd a a.length
        by_cases hFB : flashE b 4000 = 0
        · have TB : Hid (timeV (B b).data.toList = .tuple #[.int .i64 (costK b b.length), .int .i64 0]) := Lib.hid (by rw [L_B]; unfold timeV; rw [if_pos hFB])
          have TAB : Hid (timeV (B a ++ B b).data.toList = .tuple #[.int .i64 (costK a a.length + costK b b.length), .int .i64 0]) := Lib.hid (by rw [LAB.out]; exact time_two hFA hFB (by omega))
          have hcb := costK_bd b b.length
          obtain ⟨ca, eca⟩ : ∃ c, costK a a.length = c := ⟨_, rfl⟩
          obtain ⟨cb, ecb⟩ : ∃ c, costK b b.length = c := ⟨_, rfl⟩
          rw [eca] at TA TAB hca
          rw [ecb] at TB TAB hcb
          subst hq0
          clear hFA hFB eca ecb
          go_wp2_with fail
          refine (time_any _ _ MA.out).mono ?_
          rintro e w' ⟨rfl, rfl⟩
          rw [TA.out]
          go_wp2_with fail
          refine (time_any _ _ MB.out).mono ?_
          rintro e w' ⟨rfl, rfl⟩
          rw [TB.out]
          go_wp2_with fail
          refine (time_any _ _ MAB.out).mono ?_
          rintro e w' ⟨rfl, rfl⟩
          rw [TAB.out]
          go_wp2_with fail
          go_loopw [19, 20, 21] (fun st sg i wr => ∃ (k : Nat) (S : List (List UInt8)), k ≤ ws.length ∧ i = .int .i64 k ∧ st = .string (B S.flatten) ∧ wr.ownsRow W.heap.size 9 1 sg S.length (S.map encS) ∧ S.length ≤ k ∧ S.flatten.length ≤ 100 * k ∧ Hid (S = ((ws.take k).filter wordB).map signalL) ∧ Below W.heap.size W wr) (fun _ _ i _ => ws.length - (intOf i).toNat)
          case atStart => exact ⟨0, [], Nat.zero_le _, rfl, rfl, World.ownsRow_nil _ _ _ _, by simp, by simp, Lib.hid rfl, HB3.out⟩
          case round =>
            obtain ⟨k, S, hk, rfl, rfl, hrow, hSk, hSl, hS, hBr⟩ := hrel
            by_cases hlt : k < ws.length
            · have HVr := Lib.hid (HV.out.keep hBr)
              obtain ⟨wa', wcap', hwv, hwc⟩ := HVr.out.form
              cases hwv
              obtain ⟨g, off, rfl, hg, c0⟩ := hwc k hlt
              have hlti : (k : Int) < ws.length := by omega
              have hk0 : (0 : Int) ≤ k := by omega
              have ex : ws.getD k [] = ws[k] := by rw [List.getD_eq_getElem?_getD, List.getElem?_eq_getElem hlt]; rfl
              have hmx := HWL.out ws[k] (List.getElem_mem hlt)
              have HF := Lib.hid (filter_take ws k hlt)
              obtain ⟨y, hy⟩ : ∃ y, ws[k] = y := ⟨_, rfl⟩
              rw [ex, hy] at c0
              rw [hy] at hmx HF
              have hmx' : (B y).size ≤ maxLen := by rw [size_B]; exact hmx
              have HMX := Lib.hid hmx'
              have HGr := Lib.hid (HG.out.below hBr)
              cases hw : wordB y
              · have SV : Hid (signalV (B y).data.toList = .tuple #[.string ⟨#[]⟩, .int .i64 7]) := Lib.hid (by rw [L_B]; unfold signalV; rw [if_neg (by rw [hw]; decide)])
                have HS2 : Hid (S = ((ws.take (k + 1)).filter wordB).map signalL) := Lib.hid (by rw [HF.out, hw, hS.out]; simp)
                clear hwc ex hmx hy hmx' hw
                go_wp2_with fail
                refine (signal_any _ _ HMX.out HGr.out.env.1 HGr.out.env.2).mono ?_
                rintro e w2 ⟨rfl, hb⟩
                rw [SV.out]
                have hrow2 := ownsRow_below hrow hb
                have hBr2 := hBr.trans (hb.mono hBr.size)
                clear hb hrow
                go_wp2_with fail
                go_roundw
                case rel => exact ⟨k + 1, S, by omega, by go_num, rfl, hrow2, by omega, by omega, HS2, hBr2⟩
                case measure => simp [intOf]; omega
              · have SV : Hid (signalV (B y).data.toList = .tuple #[.string (B (signalL y)), .int .i64 0]) := Lib.hid (by rw [L_B]; unfold signalV; rw [if_pos hw])
                have HS2 : Hid (S ++ [signalL y] = ((ws.take (k + 1)).filter wordB).map signalL) := Lib.hid (by rw [HF.out, hw, hS.out]; simp)
                have hsl := signal_len hw
                obtain ⟨z, ez⟩ : ∃ z, signalL y = z := ⟨_, rfl⟩
                rw [ez] at SV HS2 hsl
                have ha4 : ¬ 9223372036854775807 < S.flatten.length + z.length := by omega
                have HFF : Hid (B (S ++ [z]).flatten = B S.flatten ++ B z) := Lib.hid (by rw [List.flatten_append, B_app]; simp)
                have HFL2 : Hid ((S ++ [z]).flatten.length ≤ 100 * (k + 1)) := Lib.hid (by rw [List.flatten_append, List.length_append]; simp only [List.flatten_cons, List.flatten_nil, List.append_nil]; omega)
                obtain ⟨sf, esf⟩ : ∃ sf, S.flatten = sf := ⟨_, rfl⟩
                rw [esf] at ha4 HFF hSl ⊢
                clear hwc ex hmx hy hmx' hw ez esf
                go_wp2_with fail
                refine (signal_any _ _ HMX.out HGr.out.env.1 HGr.out.env.2).mono ?_
                rintro e w2 ⟨rfl, hb⟩
                rw [SV.out]
                have hrow2 := ownsRow_below hrow hb
                have hBr2 := hBr.trans (hb.mono hBr.size)
                clear hb hrow
                go_wp2_with (at_builtin; refine wpList_append_own _ rfl _ _ 36 rfl W.heap.size 9 i0 (.string ⟨#[]⟩) 1 16 Tryd.underlying36 hi hz0 hz1 hz2 rfl (by decide) _ _ _ rfl (hrow2.alloc _) ⟨w2.heap.size, 0, none⟩ 1 1 [.string (B z)] rfl rfl (cell_one_newS _ _ _) (by simp [Value.oneCell']) (by unfold maxLen; omega) (by omega) (by have := hBr2.size; simp; omega) ?_; intro v' w3 hown' hgrow _)
                go_roundw
                case rel => exact ⟨k + 1, S ++ [z], by omega, by go_num, by rw [HFF.out], by simpa [encS] using hown', by simp; omega, HFL2.out, HS2, (hBr2.alloc hBr2.size _).grown hgrow (by have := hBr2.size; simp; omega) (fun k e => (hrow2.lt k e).1)⟩
                case measure => simp [intOf]; omega
            · obtain rfl : k = ws.length := by omega
              have hSS := hS.out
              rw [List.take_length] at hSS
              have hfw : ∀ x ∈ ws.filter wordB, wordB x = true := fun x hx => (List.mem_filter.1 hx).2
              have hfs := flash_stream hfw (by have := List.length_filter_le wordB ws; omega)
              have hsp := splitP_signals hfw
              rw [← hSS] at hfs hsp
              have HFS := Lib.hid hfs
              have HSP := Lib.hid hsp
              have HR := Lib.hid hrow
              have HBr := Lib.hid hBr
              have hS8 : S.length ≤ 1000000 := by omega
              clear hSS hfw hfs hsp hrow hS hBr
              go_wp2_with fail
              refine (Split_ok _ _ HFS.out (HM.out.below HBr.out)).mono ?_
              rintro e w2 ⟨x, rfl, hx, hb⟩
              rw [HSP.out] at hx ⊢
              have HX := Lib.hid hx
              obtain ⟨za, zcap, rfl, _⟩ := hx.form
              have HRS := Lib.hid (SRow.of_owned (ownsRow_below HR.out hb))
              have HBr2 := Lib.hid (HBr.out.trans (hb.mono HBr.out.size))
              clear hx hb
              go_wp2_with fail
              refine (texts_any _ _ S S _ HX.out HRS.out hS8 hS8).mono ?_
              rintro e w3 ⟨rfl, hb⟩
              rw [show decide (S = S) = true from decide_eq_true rfl]
              have HBr3 := Lib.hid (HBr2.out.trans (hb.mono HBr2.out.size))
              clear hb
              go_wp2_with fail
              go_ret
              exact ⟨rfl, HBr3.out⟩
        · obtain ⟨qb, eqb⟩ : ∃ qb, flashE b 4000 = qb := ⟨_, rfl⟩
          rw [eqb] at hFB
          have TB : Hid (timeV (B b).data.toList = .tuple #[.int .i64 0, .int .i64 qb]) := Lib.hid (by rw [L_B]; unfold timeV; rw [if_neg (by rw [eqb]; exact hFB), eqb])
          have hqb : (qb == 0) = false := by simpa using hFB
          obtain ⟨tn, te, htf⟩ := time_form (a ++ b)
          have TAB : Hid (timeV (B a ++ B b).data.toList = .tuple #[.int .i64 tn, .int .i64 te]) := Lib.hid (by rw [LAB.out]; exact htf)
          obtain ⟨ca, eca⟩ : ∃ c, costK a a.length = c := ⟨_, rfl⟩
          rw [eca] at TA hca
          subst hq0
          clear hFA hFB eca eqb htf
          go_wp2_with fail
          refine (time_any _ _ MA.out).mono ?_
          rintro e w' ⟨rfl, rfl⟩
          rw [TA.out]
          go_wp2_with fail
          refine (time_any _ _ MB.out).mono ?_
          rintro e w' ⟨rfl, rfl⟩
          rw [TB.out]
          go_wp2_with fail
          refine (time_any _ _ MAB.out).mono ?_
          rintro e w' ⟨rfl, rfl⟩
          rw [TAB.out]
          go_wp2_with fail
          go_loopw [19, 20, 21] (fun st sg i wr => ∃ (k : Nat) (S : List (List UInt8)), k ≤ ws.length ∧ i = .int .i64 k ∧ st = .string (B S.flatten) ∧ wr.ownsRow W.heap.size 9 1 sg S.length (S.map encS) ∧ S.length ≤ k ∧ S.flatten.length ≤ 100 * k ∧ Hid (S = ((ws.take k).filter wordB).map signalL) ∧ Below W.heap.size W wr) (fun _ _ i _ => ws.length - (intOf i).toNat)
          case atStart => exact ⟨0, [], Nat.zero_le _, rfl, rfl, World.ownsRow_nil _ _ _ _, by simp, by simp, Lib.hid rfl, HB3.out⟩
          case round =>
            obtain ⟨k, S, hk, rfl, rfl, hrow, hSk, hSl, hS, hBr⟩ := hrel
            by_cases hlt : k < ws.length
            · have HVr := Lib.hid (HV.out.keep hBr)
              obtain ⟨wa', wcap', hwv, hwc⟩ := HVr.out.form
              cases hwv
              obtain ⟨g, off, rfl, hg, c0⟩ := hwc k hlt
              have hlti : (k : Int) < ws.length := by omega
              have hk0 : (0 : Int) ≤ k := by omega
              have ex : ws.getD k [] = ws[k] := by rw [List.getD_eq_getElem?_getD, List.getElem?_eq_getElem hlt]; rfl
              have hmx := HWL.out ws[k] (List.getElem_mem hlt)
              have HF := Lib.hid (filter_take ws k hlt)
              obtain ⟨y, hy⟩ : ∃ y, ws[k] = y := ⟨_, rfl⟩
              rw [ex, hy] at c0
              rw [hy] at hmx HF
              have hmx' : (B y).size ≤ maxLen := by rw [size_B]; exact hmx
              have HMX := Lib.hid hmx'
              have HGr := Lib.hid (HG.out.below hBr)
              cases hw : wordB y
              · have SV : Hid (signalV (B y).data.toList = .tuple #[.string ⟨#[]⟩, .int .i64 7]) := Lib.hid (by rw [L_B]; unfold signalV; rw [if_neg (by rw [hw]; decide)])
                have HS2 : Hid (S = ((ws.take (k + 1)).filter wordB).map signalL) := Lib.hid (by rw [HF.out, hw, hS.out]; simp)
                clear hwc ex hmx hy hmx' hw
                go_wp2_with fail
                refine (signal_any _ _ HMX.out HGr.out.env.1 HGr.out.env.2).mono ?_
                rintro e w2 ⟨rfl, hb⟩
                rw [SV.out]
                have hrow2 := ownsRow_below hrow hb
                have hBr2 := hBr.trans (hb.mono hBr.size)
                clear hb hrow
                go_wp2_with fail
                go_roundw
                case rel => exact ⟨k + 1, S, by omega, by go_num, rfl, hrow2, by omega, by omega, HS2, hBr2⟩
                case measure => simp [intOf]; omega
              · have SV : Hid (signalV (B y).data.toList = .tuple #[.string (B (signalL y)), .int .i64 0]) := Lib.hid (by rw [L_B]; unfold signalV; rw [if_pos hw])
                have HS2 : Hid (S ++ [signalL y] = ((ws.take (k + 1)).filter wordB).map signalL) := Lib.hid (by rw [HF.out, hw, hS.out]; simp)
                have hsl := signal_len hw
                obtain ⟨z, ez⟩ : ∃ z, signalL y = z := ⟨_, rfl⟩
                rw [ez] at SV HS2 hsl
                have ha4 : ¬ 9223372036854775807 < S.flatten.length + z.length := by omega
                have HFF : Hid (B (S ++ [z]).flatten = B S.flatten ++ B z) := Lib.hid (by rw [List.flatten_append, B_app]; simp)
                have HFL2 : Hid ((S ++ [z]).flatten.length ≤ 100 * (k + 1)) := Lib.hid (by rw [List.flatten_append, List.length_append]; simp only [List.flatten_cons, List.flatten_nil, List.append_nil]; omega)
                obtain ⟨sf, esf⟩ : ∃ sf, S.flatten = sf := ⟨_, rfl⟩
                rw [esf] at ha4 HFF hSl ⊢
                clear hwc ex hmx hy hmx' hw ez esf
                go_wp2_with fail
                refine (signal_any _ _ HMX.out HGr.out.env.1 HGr.out.env.2).mono ?_
                rintro e w2 ⟨rfl, hb⟩
                rw [SV.out]
                have hrow2 := ownsRow_below hrow hb
                have hBr2 := hBr.trans (hb.mono hBr.size)
                clear hb hrow
                go_wp2_with (at_builtin; refine wpList_append_own _ rfl _ _ 36 rfl W.heap.size 9 i0 (.string ⟨#[]⟩) 1 16 Tryd.underlying36 hi hz0 hz1 hz2 rfl (by decide) _ _ _ rfl (hrow2.alloc _) ⟨w2.heap.size, 0, none⟩ 1 1 [.string (B z)] rfl rfl (cell_one_newS _ _ _) (by simp [Value.oneCell']) (by unfold maxLen; omega) (by omega) (by have := hBr2.size; simp; omega) ?_; intro v' w3 hown' hgrow _)
                go_roundw
                case rel => exact ⟨k + 1, S ++ [z], by omega, by go_num, by rw [HFF.out], by simpa [encS] using hown', by simp; omega, HFL2.out, HS2, (hBr2.alloc hBr2.size _).grown hgrow (by have := hBr2.size; simp; omega) (fun k e => (hrow2.lt k e).1)⟩
                case measure => simp [intOf]; omega
            · obtain rfl : k = ws.length := by omega
              have hSS := hS.out
              rw [List.take_length] at hSS
              have hfw : ∀ x ∈ ws.filter wordB, wordB x = true := fun x hx => (List.mem_filter.1 hx).2
              have hfs := flash_stream hfw (by have := List.length_filter_le wordB ws; omega)
              have hsp := splitP_signals hfw
              rw [← hSS] at hfs hsp
              have HFS := Lib.hid hfs
              have HSP := Lib.hid hsp
              have HR := Lib.hid hrow
              have HBr := Lib.hid hBr
              have hS8 : S.length ≤ 1000000 := by omega
              clear hSS hfw hfs hsp hrow hS hBr
              go_wp2_with fail
              refine (Split_ok _ _ HFS.out (HM.out.below HBr.out)).mono ?_
              rintro e w2 ⟨x, rfl, hx, hb⟩
              rw [HSP.out] at hx ⊢
              have HX := Lib.hid hx
              obtain ⟨za, zcap, rfl, _⟩ := hx.form
              have HRS := Lib.hid (SRow.of_owned (ownsRow_below HR.out hb))
              have HBr2 := Lib.hid (HBr.out.trans (hb.mono HBr.out.size))
              clear hx hb
              go_wp2_with fail
              refine (texts_any _ _ S S _ HX.out HRS.out hS8 hS8).mono ?_
              rintro e w3 ⟨rfl, hb⟩
              rw [show decide (S = S) = true from decide_eq_true rfl]
              have HBr3 := Lib.hid (HBr2.out.trans (hb.mono HBr2.out.size))
              clear hb
              go_wp2_with fail
              go_ret
              exact ⟨rfl, HBr3.out⟩
      · have hqa : (q == 0) = false := by simpa using hq0
        have TA : Hid (timeV (B a).data.toList = .tuple #[.int .i64 0, .int .i64 q]) := Lib.hid (by rw [L_B]; unfold timeV; rw [if_neg (by rw [HQ.out]; exact hq0), HQ.out])
        obtain ⟨bn, be, hbf⟩ := time_form b
        have TB : Hid (timeV (B b).data.toList = .tuple #[.int .i64 bn, .int .i64 be]) := Lib.hid (by rw [L_B]; exact hbf)
        obtain ⟨tn, te, htf⟩ := time_form (a ++ b)
        have TAB : Hid (timeV (B a ++ B b).data.toList = .tuple #[.int .i64 tn, .int .i64 te]) := Lib.hid (by rw [LAB.out]; exact htf)
        clear hbf htf hq0
        go_wp2_with fail
        refine (time_any _ _ MA.out).mono ?_
        rintro e w' ⟨rfl, rfl⟩
        rw [TA.out]
        go_wp2_with fail
        refine (time_any _ _ MB.out).mono ?_
        rintro e w' ⟨rfl, rfl⟩
        rw [TB.out]
        go_wp2_with fail
        refine (time_any _ _ MAB.out).mono ?_
        rintro e w' ⟨rfl, rfl⟩
        rw [TAB.out]
        go_wp2_with fail
        go_loopw [19, 20, 21] (fun st sg i wr => ∃ (k : Nat) (S : List (List UInt8)), k ≤ ws.length ∧ i = .int .i64 k ∧ st = .string (B S.flatten) ∧ wr.ownsRow W.heap.size 9 1 sg S.length (S.map encS) ∧ S.length ≤ k ∧ S.flatten.length ≤ 100 * k ∧ Hid (S = ((ws.take k).filter wordB).map signalL) ∧ Below W.heap.size W wr) (fun _ _ i _ => ws.length - (intOf i).toNat)
        case atStart => exact ⟨0, [], Nat.zero_le _, rfl, rfl, World.ownsRow_nil _ _ _ _, by simp, by simp, Lib.hid rfl, HB3.out⟩
        case round =>
          obtain ⟨k, S, hk, rfl, rfl, hrow, hSk, hSl, hS, hBr⟩ := hrel
          by_cases hlt : k < ws.length
          · have HVr := Lib.hid (HV.out.keep hBr)
            obtain ⟨wa', wcap', hwv, hwc⟩ := HVr.out.form
            cases hwv
            obtain ⟨g, off, rfl, hg, c0⟩ := hwc k hlt
            have hlti : (k : Int) < ws.length := by omega
            have hk0 : (0 : Int) ≤ k := by omega
            have ex : ws.getD k [] = ws[k] := by rw [List.getD_eq_getElem?_getD, List.getElem?_eq_getElem hlt]; rfl
            have hmx := HWL.out ws[k] (List.getElem_mem hlt)
            have HF := Lib.hid (filter_take ws k hlt)
            obtain ⟨y, hy⟩ : ∃ y, ws[k] = y := ⟨_, rfl⟩
            rw [ex, hy] at c0
            rw [hy] at hmx HF
            have hmx' : (B y).size ≤ maxLen := by rw [size_B]; exact hmx
            have HMX := Lib.hid hmx'
            have HGr := Lib.hid (HG.out.below hBr)
            cases hw : wordB y
            · have SV : Hid (signalV (B y).data.toList = .tuple #[.string ⟨#[]⟩, .int .i64 7]) := Lib.hid (by rw [L_B]; unfold signalV; rw [if_neg (by rw [hw]; decide)])
              have HS2 : Hid (S = ((ws.take (k + 1)).filter wordB).map signalL) := Lib.hid (by rw [HF.out, hw, hS.out]; simp)
              clear hwc ex hmx hy hmx' hw
              go_wp2_with fail
              refine (signal_any _ _ HMX.out HGr.out.env.1 HGr.out.env.2).mono ?_
              rintro e w2 ⟨rfl, hb⟩
              rw [SV.out]
              have hrow2 := ownsRow_below hrow hb
              have hBr2 := hBr.trans (hb.mono hBr.size)
              clear hb hrow
              go_wp2_with fail
              go_roundw
              case rel => exact ⟨k + 1, S, by omega, by go_num, rfl, hrow2, by omega, by omega, HS2, hBr2⟩
              case measure => simp [intOf]; omega
            · have SV : Hid (signalV (B y).data.toList = .tuple #[.string (B (signalL y)), .int .i64 0]) := Lib.hid (by rw [L_B]; unfold signalV; rw [if_pos hw])
              have HS2 : Hid (S ++ [signalL y] = ((ws.take (k + 1)).filter wordB).map signalL) := Lib.hid (by rw [HF.out, hw, hS.out]; simp)
              have hsl := signal_len hw
              obtain ⟨z, ez⟩ : ∃ z, signalL y = z := ⟨_, rfl⟩
              rw [ez] at SV HS2 hsl
              have ha4 : ¬ 9223372036854775807 < S.flatten.length + z.length := by omega
              have HFF : Hid (B (S ++ [z]).flatten = B S.flatten ++ B z) := Lib.hid (by rw [List.flatten_append, B_app]; simp)
              have HFL2 : Hid ((S ++ [z]).flatten.length ≤ 100 * (k + 1)) := Lib.hid (by rw [List.flatten_append, List.length_append]; simp only [List.flatten_cons, List.flatten_nil, List.append_nil]; omega)
              obtain ⟨sf, esf⟩ : ∃ sf, S.flatten = sf := ⟨_, rfl⟩
              rw [esf] at ha4 HFF hSl ⊢
              clear hwc ex hmx hy hmx' hw ez esf
              go_wp2_with fail
              refine (signal_any _ _ HMX.out HGr.out.env.1 HGr.out.env.2).mono ?_
              rintro e w2 ⟨rfl, hb⟩
              rw [SV.out]
              have hrow2 := ownsRow_below hrow hb
              have hBr2 := hBr.trans (hb.mono hBr.size)
              clear hb hrow
              go_wp2_with (at_builtin; refine wpList_append_own _ rfl _ _ 36 rfl W.heap.size 9 i0 (.string ⟨#[]⟩) 1 16 Tryd.underlying36 hi hz0 hz1 hz2 rfl (by decide) _ _ _ rfl (hrow2.alloc _) ⟨w2.heap.size, 0, none⟩ 1 1 [.string (B z)] rfl rfl (cell_one_newS _ _ _) (by simp [Value.oneCell']) (by unfold maxLen; omega) (by omega) (by have := hBr2.size; simp; omega) ?_; intro v' w3 hown' hgrow _)
              go_roundw
              case rel => exact ⟨k + 1, S ++ [z], by omega, by go_num, by rw [HFF.out], by simpa [encS] using hown', by simp; omega, HFL2.out, HS2, (hBr2.alloc hBr2.size _).grown hgrow (by have := hBr2.size; simp; omega) (fun k e => (hrow2.lt k e).1)⟩
              case measure => simp [intOf]; omega
          · obtain rfl : k = ws.length := by omega
            have hSS := hS.out
            rw [List.take_length] at hSS
            have hfw : ∀ x ∈ ws.filter wordB, wordB x = true := fun x hx => (List.mem_filter.1 hx).2
            have hfs := flash_stream hfw (by have := List.length_filter_le wordB ws; omega)
            have hsp := splitP_signals hfw
            rw [← hSS] at hfs hsp
            have HFS := Lib.hid hfs
            have HSP := Lib.hid hsp
            have HR := Lib.hid hrow
            have HBr := Lib.hid hBr
            have hS8 : S.length ≤ 1000000 := by omega
            clear hSS hfw hfs hsp hrow hS hBr
            go_wp2_with fail
            refine (Split_ok _ _ HFS.out (HM.out.below HBr.out)).mono ?_
            rintro e w2 ⟨x, rfl, hx, hb⟩
            rw [HSP.out] at hx ⊢
            have HX := Lib.hid hx
            obtain ⟨za, zcap, rfl, _⟩ := hx.form
            have HRS := Lib.hid (SRow.of_owned (ownsRow_below HR.out hb))
            have HBr2 := Lib.hid (HBr.out.trans (hb.mono HBr.out.size))
            clear hx hb
            go_wp2_with fail
            refine (texts_any _ _ S S _ HX.out HRS.out hS8 hS8).mono ?_
            rintro e w3 ⟨rfl, hb⟩
            rw [show decide (S = S) = true from decide_eq_true rfl]
            have HBr3 := Lib.hid (HBr2.out.trans (hb.mono HBr2.out.size))
            clear hb
            go_wp2_with fail
            go_ret
            exact ⟨rfl, HBr3.out⟩
end Go.Proofs.YtgcaldceiogkaaaDoor
