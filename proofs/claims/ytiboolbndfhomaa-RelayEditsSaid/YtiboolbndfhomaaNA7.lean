/- CheckWay of package relay. -/
import Derived.Test.YtiboolbndfhomaaNA6
set_option linter.unusedVariables false
set_option linter.unusedSimpArgs false
namespace Go.Proofs.Ytiboolbndfhomaa
open Go.RowKit

def hopB (ls : List Lk) (h : Sp) (at' now : Int) : Bool := decide (0 ≤ h.1) && decide (h.1 < ls.length) && decide ((ls.getD h.1.toNat .nil).fr = at') && decide (now ≤ h.2) && canB (ls.getD h.1.toNat .nil) h.2
/-- Where a word is, and when, that uses hops. -/
def goL (ls : List Lk) : List Sp → Int → Int → Option (Int × Int)
  | [], a, n => some (a, n)
  | h :: l, a, n => if hopB ls h a n = true then goL ls l (ls.getD h.1.toNat .nil).to (h.2 + (ls.getD h.1.toNat .nil).dl) else none
def wayR (st : Int) (ls : List Lk) (a b t : Int) (l : List Sp) : Int × Int :=
  if wayE st ls a b t = 0 then (if 40 < l.length then ((0, 2) : Int × Int) else match goL ls l a t with
    | some (x, n) => if x = b then (n, 0) else (0, 8)
    | none => (0, 8)) else (0, wayE st ls a b t)
theorem wayE_ok {st : Int} {ls : List Lk} {a b t : Int} (h : wayE st ls a b t = 0) : startE st ls a t = 0 ∧ stB st b = true := by
  unfold wayE at h
  split at h
  · rename_i h1
    split at h
    · rename_i h2; exact ⟨h1, h2⟩
    · cases h
  · rename_i h1; exact absurd h h1

set_option maxRecDepth 100000 in
set_option maxHeartbeats 4000000 in
theorem CheckWay_any (st : Int) (o : Value) (ls : List Lk) (a b t : Int) (v : Value) (l : List Sp) (w : World) (hv : NRow w o ls) (hn : SpRow w v l) :
    Calls Try.prog 26 #[ntV st o, .int .i64 a, .int .i64 b, .int .i64 t, v] w fun e w' => e = .returned (.tuple #[.int .i64 (wayR st ls a b t l).1, .int .i64 (wayR st ls a b t l).2]) ∧ Below w.heap.size w w' := by
  have HC := Lib.hid (fun w' (h : Below w.heap.size w w') => checkWay_any st o ls a b t w' (hv.keep h))
  obtain ⟨oa, oc, rfl, hlc⟩ := hv.row.form
  obtain ⟨va, vc, rfl, hnc⟩ := hn.form
  have HLC := Lib.hid hlc
  have HNC := Lib.hid hnc
  have HOP := Lib.hid hv.op
  have HA := Lib.hid (fun W => net_cells w st (.slice oa ls.length oc) (W := W))
  have HB0 := Lib.hid ((Below.refl _ w).alloc (Nat.le_refl w.heap.size) (.cells #[.int .i64 st, .slice oa ls.length oc] 24))
  clear hv hlc hnc hn
  unfold ntV at HC ⊢
  by_cases hE : wayE st ls a b t = 0
  case neg =>
    have HV : Hid (wayR st ls a b t l = (0, wayE st ls a b t)) := Lib.hid (by unfold wayR; rw [if_neg hE])
    have hz : (wayE st ls a b t != 0) = true := by simpa using hE
    obtain ⟨q, hq⟩ : ∃ q, wayE st ls a b t = q := ⟨_, rfl⟩
    rw [hq] at HC HV hz
    clear hE hq
    go_enter Try.func26, Try.ntmps26
    go_wp2_with fail
    refine (HC.out _ HB0.out).mono ?_
    rintro e w1 ⟨rfl, hb⟩
    have HB1 := Lib.hid (HB0.out.trans (hb.mono HB0.out.size))
    clear hb
    go_wp2_with fail
    go_ret2
    exact ⟨ret_val' (by rw [HV.out]; rfl), HB1.out⟩
  obtain ⟨hs, _⟩ := wayE_ok hE
  obtain ⟨hne, a0, a1, t0, t1⟩ := startE_ok hs
  obtain ⟨s1, s10, hl40, hks⟩ := netE_ok hne
  have HKS := Lib.hid hks
  have HV0 : Hid (wayR st ls a b t l = if 40 < l.length then ((0, 2) : Int × Int) else match goL ls l a t with
    | some (x, n) => if x = b then (n, 0) else (0, 8)
    | none => (0, 8)) := Lib.hid (by unfold wayR; rw [if_pos hE])
  rw [hE] at HC
  clear hE hs hne hks
  by_cases h1 : 40 < l.length
  · have HV : Hid (wayR st ls a b t l = (0, 2)) := Lib.hid (by rw [HV0.out, if_pos h1])
    have g1 : (40 : Int) < l.length := by omega
    go_enter Try.func26, Try.ntmps26
    go_wp2_with fail
    refine (HC.out _ HB0.out).mono ?_
    rintro e w1 ⟨rfl, hb⟩
    have HB1 := Lib.hid (HB0.out.trans (hb.mono HB0.out.size))
    clear hb
    go_wp2_with fail
    go_ret2
    exact ⟨ret_val' (by rw [HV.out]; rfl), HB1.out⟩
  have g1 : ¬ (40 : Int) < l.length := by omega
  have HV : Hid (wayR st ls a b t l = match goL ls l a t with
    | some (x, n) => if x = b then (n, 0) else (0, 8)
    | none => (0, 8)) := Lib.hid (by rw [HV0.out, if_neg h1])
  have HVN : Hid (goL ls l a t = none → wayR st ls a b t l = (0, 8)) := Lib.hid (fun h => by rw [HV.out, h])
  clear HV0 h1
  go_enter Try.func26, Try.ntmps26
  go_wp2_with fail
  refine (HC.out _ HB0.out).mono ?_
  rintro e w1 ⟨rfl, hb⟩
  obtain ⟨c0, c1, hlt, hb1⟩ := HA.out w1 hb
  have HB1 := Lib.hid hb1
  have HCN : Hid (∀ W, Below w1.heap.size w1 W → W.cell? ⟨w.heap.size, 1, none⟩ = some (.slice oa ls.length oc)) := Lib.hid (fun W h => (h.cell (p := ⟨w.heap.size, 1, none⟩) hlt).trans c1)
  clear hb hb1 c0 c1
  go_wp2_with fail
  go_loopw [13, 14, 33] (fun p n i wr => ∃ (k : Nat) (x y : Int), k ≤ l.length ∧ i = .int .i64 k ∧ p = .int .i64 x ∧ n = .int .i64 y ∧ Hid (goL ls l a t = goL ls (l.drop k) x y) ∧ Hid (Below w1.heap.size w1 wr)) (fun _ _ i _ => l.length - (intOf i).toNat)
  case atStart => exact ⟨0, a, t, Nat.zero_le _, rfl, rfl, rfl, Lib.hid rfl, Lib.hid (Below.refl _ _)⟩
  case round =>
    obtain ⟨k, x, y, hk, rfl, rfl, rfl, hT, hB⟩ := hrel
    by_cases hkl : k < l.length
    · obtain ⟨b', off', rfl, hb', d0, d1⟩ := HNC.out k hkl
      have hki : (k : Int) < l.length := by omega
      have hk0 : (0 : Int) ≤ k := by omega
      have hwr : Below w.heap.size w wr := HB1.out.trans (hB.out.mono HB1.out.size)
      have e0 := (hwr.cell (p := ⟨b', _, none⟩) hb').trans d0
      have e1 := (hwr.cell (p := ⟨b', _, none⟩) hb').trans d1
      have hD : Hid (goL ls (l.drop k) x y = if hopB ls (l.getD k (0, 0)) x y = true then goL ls (l.drop (k + 1)) (ls.getD (l.getD k (0, 0)).1.toNat .nil).to ((l.getD k (0, 0)).2 + (ls.getD (l.getD k (0, 0)).1.toNat .nil).dl) else none) := Lib.hid (by rw [drop_at hkl]; rfl)
      obtain ⟨⟨hl, ht⟩, hh⟩ : ∃ h, l.getD k (0, 0) = h := ⟨_, rfl⟩
      rw [hh] at e0 e1 hD
      simp only at e0 e1 hD
      have hszw : w.heap.size < wr.heap.size := Nat.lt_of_lt_of_le hlt hB.out.size
      have hnzw : w.heap.size ≠ wr.heap.size := by omega
      have cn := HCN.out wr hB.out
      have HBn : Hid (∀ o, Below w.heap.size w (wr.alloc o)) := Lib.hid fun o => hwr.alloc hwr.size o
      have HHB : Hid (hopB ls (hl, ht) x y = (decide (0 ≤ hl) && decide (hl < ls.length) && decide ((ls.getD hl.toNat .nil).fr = x) && decide (y ≤ ht) && canB (ls.getD hl.toNat .nil) ht)) := Lib.hid rfl
      clear d0 d1 hb' hh
      by_cases p1 : hl < 0
      · have HN : Hid (wayR st ls a b t l = (0, 8)) := Lib.hid (HVN.out (by rw [hT.out, hD.out, HHB.out, decide_eq_false (p := 0 ≤ hl) (by omega)]; rfl))
        clear hD HHB hwr
        go_wp2_with fail
        go_ret2
        exact ⟨ret_val' (by rw [HN.out]; rfl), HBn.out _⟩
      have g2 : decide (hl < 0) = false := decide_eq_false p1
      by_cases p2 : (ls.length : Int) ≤ hl
      · have HN : Hid (wayR st ls a b t l = (0, 8)) := Lib.hid (HVN.out (by rw [hT.out, hD.out, HHB.out, decide_eq_false (p := hl < ls.length) (by omega)]; simp))
        clear hD HHB hwr p1
        go_wp2_with fail
        go_ret2
        exact ⟨ret_val' (by rw [HN.out]; rfl), HBn.out _⟩
      have g3 : decide ((ls.length : Int) ≤ hl) = false := decide_eq_false p2
      obtain ⟨j, rfl⟩ : ∃ j : Nat, hl = j := ⟨hl.toNat, by omega⟩
      have hjl : j < ls.length := by omega
      have hji : (j : Int) < ls.length := by omega
      have hj0 : (0 : Int) ≤ j := by omega
      obtain ⟨b2, off, rfl, hb, c0, c1, c2, ov, c3, hsp⟩ := HLC.out j hjl
      have f0 := (hwr.cell (p := ⟨b2, _, none⟩) hb).trans c0
      have f1 := (hwr.cell (p := ⟨b2, _, none⟩) hb).trans c1
      have f2 := (hwr.cell (p := ⟨b2, _, none⟩) hb).trans c2
      have f3 := (hwr.cell (p := ⟨b2, _, none⟩) hb).trans c3
      have hbw : b2 < wr.heap.size := Nat.lt_of_lt_of_le hb hwr.size
      have hnb : b2 ≠ wr.heap.size := by omega
      have hlo := HOP.out _ (lk_mem hjl)
      have hsp1 := hsp.keep hwr
      have HJ : Hid ((j : Int).toNat = j) := Lib.hid (by omega)
      rw [HJ.out] at hD HHB
      obtain ⟨z, hz⟩ : ∃ z, ls.getD j .nil = z := ⟨_, rfl⟩
      rw [hz] at f0 f1 f2 hD HHB hlo hsp1
      obtain ⟨fr, to, dl, op⟩ := z
      obtain ⟨oa', ocap, rfl, _⟩ := hsp1.form
      simp only at f0 f1 f2 hD HHB hlo
      have HCL := Lib.hid (fun w' (h : Below wr.heap.size wr w') => canLeave_any ⟨fr, to, dl, op⟩ ht _ w' (hsp1.keep h) hlo)
      unfold lkV at HCL
      simp only at HCL
      clear c0 c1 c2 c3 hb hz hsp hlo hsp1 HLC
      have hwb : Below wr.heap.size wr ((wr.alloc (.cells #[.int .i64 j, .int .i64 ht] 73)).alloc (.cells #[.int .i64 fr, .int .i64 to, .int .i64 dl, .slice oa' op.length ocap] 27)) :=
        ((Below.refl _ wr).alloc (Nat.le_refl _) _).alloc (by simp) _
      have HBB := Lib.hid (hwr.trans (hwb.mono hwr.size))
      by_cases p3 : fr = x
      case neg =>
        have HN : Hid (wayR st ls a b t l = (0, 8)) := Lib.hid (HVN.out (by rw [hT.out, hD.out, HHB.out, decide_eq_false (p := fr = x) p3]; simp))
        have g4 : (fr != x) = true := by simpa using p3
        clear hD HHB hwr p1 p2 p3 hwb
        go_wp2_with fail
        go_ret2
        exact ⟨ret_val' (by rw [HN.out]; rfl), HBB.out⟩
      have g4 : (fr != x) = false := by simpa using p3
      by_cases p4 : ht < y
      · have HN : Hid (wayR st ls a b t l = (0, 8)) := Lib.hid (HVN.out (by rw [hT.out, hD.out, HHB.out, decide_eq_false (p := y ≤ ht) (by omega)]; simp))
        clear hD HHB hwr p1 p2 p3 hwb
        go_wp2_with fail
        go_ret2
        exact ⟨ret_val' (by rw [HN.out]; rfl), HBB.out⟩
      have g5 : decide (ht < y) = false := decide_eq_false p4
      have HK : Hid (∀ W, Below ((wr.alloc (.cells #[.int .i64 j, .int .i64 ht] 73)).alloc (.cells #[.int .i64 fr, .int .i64 to, .int .i64 dl, .slice oa' op.length ocap] 27)).heap.size ((wr.alloc (.cells #[.int .i64 j, .int .i64 ht] 73)).alloc (.cells #[.int .i64 fr, .int .i64 to, .int .i64 dl, .slice oa' op.length ocap] 27)) W →
          W.cell? ⟨wr.heap.size, 1, none⟩ = some (.int .i64 ht) ∧ W.cell? ⟨wr.heap.size + 1, 1, none⟩ = some (.int .i64 to) ∧ W.cell? ⟨wr.heap.size + 1, 2, none⟩ = some (.int .i64 dl) ∧ Below wr.heap.size wr W) := Lib.hid (fun W h => by
        obtain ⟨wA, hwA⟩ : ∃ wA, wr.alloc (.cells #[.int .i64 j, .int .i64 ht] 73) = wA := ⟨_, rfl⟩
        have hsA : wA.heap.size = wr.heap.size + 1 := by rw [← hwA]; simp
        rw [hwA] at h hwb
        have hl1 : wr.heap.size < (wA.alloc (.cells #[.int .i64 fr, .int .i64 to, .int .i64 dl, .slice oa' op.length ocap] 27)).heap.size := by simp; omega
        have hl2 : wr.heap.size + 1 < (wA.alloc (.cells #[.int .i64 fr, .int .i64 to, .int .i64 dl, .slice oa' op.length ocap] 27)).heap.size := by simp; omega
        have hq : (wA.alloc (.cells #[.int .i64 fr, .int .i64 to, .int .i64 dl, .slice oa' op.length ocap] 27)).heap[wr.heap.size]? = wA.heap[wr.heap.size]? := Below.heap_alloc _ _ _ (by rw [hsA]; omega)
        refine ⟨?_, ?_, ?_, hwb.trans (h.mono hwb.size)⟩
        · rw [World.cell?_of_block (w := wA.alloc _) (h.block wr.heap.size hl1), World.cell?_of_block (w := wA) hq, ← hwA, World.cell?_alloc_new]; rfl
        · rw [World.cell?_of_block (w := wA.alloc _) (h.block (wr.heap.size + 1) hl2), ← hsA, World.cell?_alloc_new]; rfl
        · rw [World.cell?_of_block (w := wA.alloc _) (h.block (wr.heap.size + 1) hl2), ← hsA, World.cell?_alloc_new]; rfl)
      cases hc : canB ⟨fr, to, dl, op⟩ ht
      · have HN : Hid (wayR st ls a b t l = (0, 8)) := Lib.hid (HVN.out (by rw [hT.out, hD.out, HHB.out, hc]; simp))
        rw [hc] at HCL
        clear hD HHB hwr p1 p2 p3 p4 hc
        have HWB := Lib.hid hwb
        clear hwb
        go_wp2_with fail
        refine (HCL.out _ HWB.out).mono ?_
        rintro e w5 ⟨rfl, hb5⟩
        have HB5 := Lib.hid (HBB.out.trans (hb5.mono HBB.out.size))
        clear hb5
        go_wp2_with fail
        go_ret2
        exact ⟨ret_val' (by rw [HN.out]; rfl), HB5.out⟩
      have hbd : ht + dl ≤ 1048576 ∧ 0 ≤ ht ∧ 1 ≤ dl := by
        have h : leaveO ⟨fr, to, dl, op⟩ ht = some ht := by unfold canB at hc; simpa using hc
        obtain ⟨_, h2, h3, h4⟩ := leaveO_bd h
        exact ⟨h3, h2, h4⟩
      obtain ⟨r1, r2, r3⟩ := hbd
      have HN : Hid (goL ls l a t = goL ls (l.drop (k + 1)) to (ht + dl)) := Lib.hid (by
        rw [hT.out, hD.out, HHB.out, hc, decide_eq_true (p := (0 : Int) ≤ j) hj0, decide_eq_true (p := (j : Int) < ls.length) hji, decide_eq_true p3, decide_eq_true (p := y ≤ ht) (by omega)]; rfl)
      rw [hc] at HCL
      clear hD HHB p1 p2 p3 p4 hc
      have HWB := Lib.hid hwb
      have HWR := Lib.hid hwr
      clear hwb hwr
      go_wp2_with fail
      refine (HCL.out _ HWB.out).mono ?_
      rintro e w5 ⟨rfl, hb5⟩
      obtain ⟨u0, u1, u2, hb6⟩ := HK.out w5 hb5
      have HB5 := Lib.hid (hB.out.trans (hb6.mono hB.out.size))
      clear hb5 hb6
      go_wp2_with fail
      go_quiet (fail)
      go_wp2_with fail
      go_roundw
      case rel => exact ⟨k + 1, to, ht + dl, by omega, by go_num, rfl, by go_num, HN, Lib.hid (below_drewN HB5.out _)⟩
      case measure => simp [intOf]; omega
    · obtain rfl : k = l.length := by omega
      have HF : Hid (goL ls l a t = some (x, y)) := Lib.hid (by rw [hT.out, List.drop_length]; rfl)
      have HBx : Hid (Below w.heap.size w wr) := Lib.hid (HB1.out.trans (hB.out.mono HB1.out.size))
      by_cases p : x = b
      · have HN : Hid (wayR st ls a b t l = (y, 0)) := Lib.hid (by rw [HV.out, HF.out]; simp [p])
        have g : (x != b) = false := by simpa using p
        clear p
        go_wp2_with fail
        go_ret2
        exact ⟨ret_val' (by rw [HN.out]; rfl), HBx.out⟩
      · have HN : Hid (wayR st ls a b t l = (0, 8)) := Lib.hid (by rw [HV.out, HF.out]; simp [p])
        have g : (x != b) = true := by simpa using p
        clear p
        go_wp2_with fail
        go_ret2
        exact ⟨ret_val' (by rw [HN.out]; rfl), HBx.out⟩
end Go.Proofs.Ytiboolbndfhomaa
