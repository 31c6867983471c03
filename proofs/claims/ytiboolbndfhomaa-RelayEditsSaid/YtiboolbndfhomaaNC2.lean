/- The reference of layer 2: within, opened, linked, SameInts. -/
import Derived.Test.YtiboolbndfhomaaNA6
set_option linter.unusedVariables false
set_option linter.unusedSimpArgs false
namespace Go.Proofs.Ytiboolbndfhomaa
open Go.RowKit

def inB (n lo hi : Int) : Bool := decide (lo ≤ n) && decide (n ≤ hi)
theorem rwithin_any (n lo hi : Int) (w : World) : Calls Try.prog 38 #[.int .i64 n, .int .i64 lo, .int .i64 hi] w fun e w' => e = .returned (.bool (inB n lo hi)) ∧ w = w' := by
  by_cases h : lo ≤ n
  · have HV : Hid (inB n lo hi = decide (n ≤ hi)) := Lib.hid (by unfold inB; rw [decide_eq_true h, Bool.true_and])
    go_enter Try.func38, Try.ntmps38
    go_wp2_with fail
    go_ret
    exact ⟨ret_bool' HV.out.symm, rfl⟩
  · have HV : Hid (inB n lo hi = false) := Lib.hid (by unfold inB; rw [decide_eq_false h, Bool.false_and])
    have h' : decide (lo ≤ n) = false := decide_eq_false h
    go_enter Try.func38, Try.ntmps38
    go_wp2_with fail
    go_ret
    exact ⟨ret_bool' HV.out.symm, rfl⟩

def openE (l : List Sp) : Int := if 12 < l.length then 2 else if okS (-1) l = true then 0 else 1
set_option maxRecDepth 100000 in
set_option maxHeartbeats 2000000 in
theorem ropened_any (v : Value) (l : List Sp) (w : World) (hv : SpRow w v l) (hl : l.length ≤ 9223372036854775807) :
    Calls Try.prog 50 #[v] w fun e w' => e = .returned (.int .i64 (openE l)) ∧ Below w.heap.size w w' := by
  obtain ⟨a, cap, rfl, hc⟩ := hv.form
  have HC := Lib.hid hc
  clear hc hv
  by_cases h1 : 12 < l.length
  · have HV : Hid (openE l = 2) := Lib.hid (by unfold openE; rw [if_pos h1])
    have g1 : (12 : Int) < l.length := by omega
    go_enter Try.func50, Try.ntmps50
    go_wp2_with fail
    go_ret
    exact ⟨ret_int' HV.out.symm, Below.refl _ _⟩
  have g1 : ¬ (12 : Int) < l.length := by omega
  have HV : Hid (openE l = if okS (-1) l = true then 0 else 1) := Lib.hid (by unfold openE; rw [if_neg h1])
  go_enter Try.func50, Try.ntmps50
  go_wp2_with fail
  go_loopw [3] (fun i wr => ∃ (k : Nat) (e : Int), k ≤ l.length ∧ i = .int .i64 k ∧ Hid (k = 0 ∧ e = -1 ∨ ∃ j, k = j + 1 ∧ e = (l.getD j (0, 0)).2 ∧ 0 ≤ e) ∧ Hid (okS (-1) l = okS e (l.drop k)) ∧ Hid (Below w.heap.size w wr)) (fun i _ => l.length - (intOf i).toNat)
  case atStart => exact ⟨0, -1, Nat.zero_le _, rfl, Lib.hid (.inl ⟨rfl, rfl⟩), Lib.hid rfl, Lib.hid (Below.refl _ _)⟩
  case round =>
    obtain ⟨k, en, hk, rfl, hP, hT, hB⟩ := hrel
    by_cases hkl : k < l.length
    · obtain ⟨b, off, rfl, hb, c0, c1⟩ := HC.out k hkl
      have hki : (k : Int) < l.length := by omega
      have hk0 : (0 : Int) ≤ k := by omega
      have e0 := (hB.out.cell (p := ⟨b, _, none⟩) hb).trans c0
      have e1 := (hB.out.cell (p := ⟨b, _, none⟩) hb).trans c1
      have hD : Hid (okS en (l.drop k) = (decide (en < (l.getD k (0, 0)).1) && decide ((l.getD k (0, 0)).1 ≤ (l.getD k (0, 0)).2) && decide ((l.getD k (0, 0)).2 ≤ 1048576) && okS (l.getD k (0, 0)).2 (l.drop (k + 1)))) := Lib.hid (by rw [drop_at hkl]; rfl)
      obtain ⟨x, hx⟩ : ∃ x, l.getD k (0, 0) = x := ⟨_, rfl⟩
      rw [hx] at e0 e1 hD
      have HX := Lib.hid hx
      obtain ⟨lo, hi⟩ := x
      simp only at e0 e1 hD
      have hen : -1 ≤ en := by
        rcases hP.out with ⟨_, h⟩ | ⟨_, _, _, h⟩ <;> omega
      clear c0 c1 hb hx
      by_cases q1 : lo < 0
      · have HN : Hid (openE l = 1) := Lib.hid (by rw [HV.out, hT.out, hD.out, decide_eq_false (p := en < lo) (by omega)]; rfl)
        clear hD
        go_wp2_with fail
        go_quiet (fail)
        go_wp2_with fail
        go_ret
        exact ⟨ret_int' HN.out.symm, below_drewN hB.out _⟩
      have p1 : decide (lo < 0) = false := decide_eq_false q1
      by_cases q2 : hi < lo
      · have HN : Hid (openE l = 1) := Lib.hid (by rw [HV.out, hT.out, hD.out, decide_eq_false (p := lo ≤ hi) (by omega)]; simp)
        clear hD q1
        go_wp2_with fail
        go_quiet (fail)
        go_wp2_with fail
        go_ret
        exact ⟨ret_int' HN.out.symm, below_drewN hB.out _⟩
      have p2 : decide (hi < lo) = false := decide_eq_false q2
      by_cases q3 : 1048576 < hi
      · have HN : Hid (openE l = 1) := Lib.hid (by rw [HV.out, hT.out, hD.out, decide_eq_false (p := hi ≤ 1048576) (by omega)]; simp)
        clear hD q1 q2
        go_wp2_with fail
        go_quiet (fail)
        go_wp2_with fail
        go_ret
        exact ⟨ret_int' HN.out.symm, below_drewN hB.out _⟩
      have p3 : decide (1048576 < hi) = false := decide_eq_false q3
      have HPn : Hid (k + 1 = 0 ∧ hi = -1 ∨ ∃ j, k + 1 = j + 1 ∧ hi = (l.getD j (0, 0)).2 ∧ 0 ≤ hi) := Lib.hid (.inr ⟨k, rfl, by rw [HX.out], by omega⟩)
      have HN1 : Hid (en < lo → okS (-1) l = okS hi (l.drop (k + 1))) := Lib.hid (fun h => by rw [hT.out, hD.out, decide_eq_true (p := en < lo) h, decide_eq_true (p := lo ≤ hi) (by omega), decide_eq_true (p := hi ≤ 1048576) (by omega)]; simp)
      have HN2 : Hid (¬ en < lo → openE l = 1) := Lib.hid (fun h => by rw [HV.out, hT.out, hD.out, decide_eq_false (p := en < lo) h]; rfl)
      clear hD q2 q3
      rcases hP.out with ⟨hk00, he⟩ | ⟨j, hkj, he, hj0⟩
      · subst hk00
        have HN := Lib.hid (HN1.out (by omega))
        simp only [Nat.zero_mul, Nat.add_zero] at e0 e1
        clear q1
        go_wp2_with fail
        go_quiet (fail)
        go_wp2_with fail
        go_roundw
        case rel => exact ⟨1, hi, by omega, by go_num, HPn, HN, Lib.hid (below_drewN hB.out _)⟩
        case measure => simp [intOf]; omega
      · subst hkj
        obtain ⟨b', off', eb, hb', d0, d1⟩ := HC.out j (by omega)
        cases eb
        have f1 := (hB.out.cell (p := ⟨b, _, none⟩) hb').trans d1
        rw [← he] at f1
        have hjl : (j : Int) < l.length := by omega
        have hj00 : (0 : Int) ≤ j := by omega
        have hmx : max (0 : Int) j = j := by omega
        have hz : (0 : Int) < (j : Int) + 1 := by omega
        clear d0 d1 hb' he
        by_cases q4 : lo ≤ en
        · have HN := Lib.hid (HN2.out (by omega))
          clear q1
          go_wp2_with fail
          go_quiet (fail)
          go_wp2_with fail
          go_ret
          exact ⟨ret_int' HN.out.symm, below_drewN hB.out _⟩
        · have HN := Lib.hid (HN1.out (by omega))
          have p4 : decide (lo ≤ en) = false := decide_eq_false q4
          clear q1 q4
          go_wp2_with fail
          go_quiet (fail)
          go_wp2_with fail
          go_roundw
          case rel => exact ⟨j + 1 + 1, hi, by omega, by go_num, HPn, HN, Lib.hid (below_drewN hB.out _)⟩
          case measure => simp [intOf]; omega
    · obtain rfl : k = l.length := by omega
      have HN : Hid (openE l = 0) := Lib.hid (by rw [HV.out, hT.out, List.drop_length]; rfl)
      go_wp2_with fail
      go_ret
      exact ⟨ret_int' HN.out.symm, hB.out⟩
theorem linkE_open (k : Lk) : linkE k = if inB k.dl 1 1440 = true then openE k.op else 1 := by
  unfold linkE openE
  by_cases h : k.dl < 1 ∨ 1440 < k.dl
  · have e : inB k.dl 1 1440 = false := by
      unfold inB
      rcases h with h | h
      · rw [decide_eq_false (p := 1 ≤ k.dl) (by omega)]; rfl
      · rw [decide_eq_false (p := k.dl ≤ 1440) (by omega)]; simp
    rw [if_pos h, e]; rfl
  · have e : inB k.dl 1 1440 = true := by
      unfold inB
      rw [decide_eq_true (p := 1 ≤ k.dl) (by omega), decide_eq_true (p := k.dl ≤ 1440) (by omega)]; rfl
    rw [if_neg h, e]; rfl
set_option maxRecDepth 100000 in
theorem rlinked_any (k : Lk) (o : Value) (w : World) (hs : SpRow w o k.op) (hl : k.op.length ≤ 9223372036854775807) :
    Calls Try.prog 36 #[lkV k o] w fun e w' => e = .returned (.int .i64 (linkE k)) ∧ Below w.heap.size w w' := by
  have HO := Lib.hid (fun w' (h : Below w.heap.size w w') => ropened_any o k.op w' (hs.keep h) hl)
  obtain ⟨oa, oc, rfl, _⟩ := hs.form
  have HV := Lib.hid (linkE_open k)
  clear hs
  obtain ⟨fr, to, dl, op⟩ := k
  unfold lkV
  simp only at hl HO HV ⊢
  have HB0 := Lib.hid ((Below.refl _ w).alloc (Nat.le_refl w.heap.size) (.cells #[.int .i64 fr, .int .i64 to, .int .i64 dl, .slice oa op.length oc] 27))
  have HW := Lib.hid (fun w' => rwithin_any dl 1 1440 w')
  cases h : inB dl 1 1440
  · rw [h] at HV HW
    clear h
    go_enter Try.func36, Try.ntmps36
    go_wp2_with fail
    refine (HW.out _).mono ?_
    rintro e w1 ⟨rfl, rfl⟩
    go_wp2_with fail
    go_ret
    exact ⟨ret_int' HV.out.symm, HB0.out⟩
  · rw [h] at HV HW
    clear h
    go_enter Try.func36, Try.ntmps36
    go_wp2_with fail
    refine (HW.out _).mono ?_
    rintro e w1 ⟨rfl, rfl⟩
    go_wp2_with fail
    refine (HO.out _ HB0.out).mono ?_
    rintro e w2 ⟨rfl, hb⟩
    have HB2 := Lib.hid (HB0.out.trans (hb.mono HB0.out.size))
    clear hb
    go_wp2_with fail
    go_ret
    exact ⟨ret_int' HV.out.symm, HB2.out⟩
set_option maxRecDepth 100000 in
theorem rSameInts_any (v u : Value) (l m : List Int) (w : World) (hv : INRow w v l) (hu : INRow w u m) (hl : l.length ≤ 1000000) (hm : m.length ≤ 1000000) :
    Calls Try.prog 22 #[v, u] w fun e w' => e = .returned (.bool (decide (l = m))) ∧ Below w.heap.size w w' := by
  obtain ⟨a, cap, rfl, hc⟩ := hv.form
  obtain ⟨b, cap2, rfl, hd⟩ := hu.form
  have HC := Lib.hid hc
  have HD := Lib.hid hd
  clear hc hd hv hu
  by_cases hlen : l.length = m.length
  · have hq : ((l.length : Int) != m.length) = false := by rw [hlen]; simp
    have HL := Lib.hid hlen
    clear hlen
    go_enter Try.func22, Try.ntmps22
    go_wp2_with fail
    go_loopw [5] (fun i wr => ∃ k : Nat, k ≤ l.length ∧ i = .int .i64 k ∧ Hid (l.take k = m.take k) ∧ Hid (Below w.heap.size w wr)) (fun i _ => l.length - (intOf i).toNat)
    case atStart => exact ⟨0, Nat.zero_le _, rfl, Lib.hid rfl, Lib.hid (Below.refl _ _)⟩
    case round =>
      obtain ⟨k, hk, rfl, hT, hB⟩ := hrel
      by_cases hlt : k < l.length
      · have hltm : k < m.length := by rw [← HL.out]; exact hlt
        obtain ⟨g, off, rfl, hg, c0⟩ := HC.out k hlt
        obtain ⟨g2, off2, rfl, hg2, d0⟩ := HD.out k hltm
        have hlti : (k : Int) < l.length := by omega
        have hltj : (k : Int) < m.length := by omega
        have hk0 : (0 : Int) ≤ k := by omega
        have c1 := (hB.out.cell (p := ⟨g, _, none⟩) hg).trans c0
        have d1 := (hB.out.cell (p := ⟨g2, _, none⟩) hg2).trans d0
        have ex : l.getD k 0 = l[k] := by rw [List.getD_eq_getElem?_getD, List.getElem?_eq_getElem hlt]; rfl
        have ey : m.getD k 0 = m[k] := by rw [List.getD_eq_getElem?_getD, List.getElem?_eq_getElem hltm]; rfl
        obtain ⟨x, hx⟩ : ∃ x, l[k] = x := ⟨_, rfl⟩
        obtain ⟨y, hy⟩ : ∃ y, m[k] = y := ⟨_, rfl⟩
        rw [ex, hx] at c1
        rw [ey, hy] at d1
        clear c0 d0 ex ey
        by_cases hxy : x = y
        · have HN : Hid (l.take (k + 1) = m.take (k + 1)) := Lib.hid (by
            rw [List.take_succ_eq_append_getElem hlt, List.take_succ_eq_append_getElem hltm, hT.out, hx, hy, hxy])
          have hne2 : (x != y) = false := by simpa using hxy
          clear hx hy hxy
          go_wp2_with fail
          go_quiet (fail)
          go_wp2_with fail
          go_roundw
          case rel => exact ⟨k + 1, by omega, by go_num, HN, Lib.hid (below_drewN hB.out _)⟩
          case measure => simp [intOf]; omega
        · have HN : Hid (decide (l = m) = false) := Lib.hid (decide_eq_false (fun e => by
            subst e; rw [hx] at hy; exact hxy hy))
          have hne2 : (x != y) = true := by simpa using hxy
          clear hx hy hxy
          go_wp2_with fail
          go_quiet (fail)
          go_wp2_with fail
          go_ret
          exact ⟨ret_bool' HN.out.symm, below_drewN hB.out _⟩
      · obtain rfl : k = l.length := by omega
        have HN : Hid (decide (l = m) = true) := Lib.hid (decide_eq_true (by
          have := hT.out; rwa [List.take_length, HL.out, List.take_length] at this))
        go_wp2_with fail
        go_ret
        exact ⟨ret_bool' HN.out.symm, hB.out⟩
  · have hq : ((l.length : Int) != m.length) = true := by rw [bne_iff_ne]; omega
    have HN : Hid (decide (l = m) = false) := Lib.hid (decide_eq_false (fun e => hlen (by rw [e])))
    clear hlen
    go_enter Try.func22, Try.ntmps22
    go_wp2_with fail
    go_ret
    exact ⟨ret_bool' HN.out.symm, Below.refl _ _⟩
end Go.Proofs.Ytiboolbndfhomaa
