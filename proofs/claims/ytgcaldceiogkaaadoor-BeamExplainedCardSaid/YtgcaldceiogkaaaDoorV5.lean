/- explain and Explain of package beam. -/
import Derived.Test.YtgcaldceiogkaaaDoorV3
import Derived.Test.YtgcaldceiogkaaaDoorS9
import Derived.Test.YtgcaldceiogkaaaDoorC2
namespace Go.Proofs.YtgcaldceiogkaaaDoor
open Go.RowKit Go.Shelf

def fltC (f : Flt) : List Value := [.int .i64 f.1, .int .i64 f.2]
theorem ownsRow_below {w w' : World} {base size n : Nat} {e : TypeId} {v : Value} {xs : List Value} (h : w.ownsRow base e size v n xs) (hb : Below w.heap.size w w') : w'.ownsRow base e size v n xs := by
  refine ⟨h.1, ?_⟩
  rcases h.2 with hn | ⟨g, cap, cur, hv, hg, hgb, rest⟩
  · exact .inl hn
  · exact .inr ⟨g, cap, cur, hv, hg, (hb.block g (Array.getElem?_eq_some_iff.1 hgb).1).trans hgb, rest⟩
theorem fltC_length (l : List Flt) : (l.flatMap fltC).length = l.length * 2 := by
  induction l with
  | nil => rfl
  | cons f l ih => rw [List.flatMap_cons, List.length_append, ih]; simp [fltC]; omega
theorem fltC_get : ∀ (l : List Flt) (p : Nat), p < l.length → (l.flatMap fltC)[p * 2]? = some (.int .i64 (l.getD p (0, 0)).1) ∧ (l.flatMap fltC)[p * 2 + 1]? = some (.int .i64 (l.getD p (0, 0)).2)
  | f :: l, 0, _ => by simp [fltC]
  | f :: l, p + 1, h => by
    have := fltC_get l p (by simpa using h)
    rw [List.flatMap_cons, List.getD_cons_succ, List.getElem?_append_right (by simp [fltC]; omega), List.getElem?_append_right (by simp [fltC]; omega)]
    rw [show (p + 1) * 2 - (fltC f).length = p * 2 by simp [fltC]; omega, show (p + 1) * 2 + 1 - (fltC f).length = p * 2 + 1 by simp [fltC]; omega]
    exact this
theorem fcells_of_row {w : World} {base : Nat} {g cap : Nat} {l : List Flt} (h : w.ownsRow base 34 2 (.slice (some ⟨g, 0, none⟩) l.length cap) l.length (l.flatMap fltC)) :
    ∃ C, w.heap[g]? = some (.cells C 34 (0, 0)) ∧ FCells C l.length (fun p => l.getD p (0, 0)) ∧ base ≤ g ∧ l.length ≤ cap := by
  rcases h.2 with ⟨h0, _⟩ | ⟨g', cap', cur, hv, hbase, hb, hn, _, hcs, hxs⟩
  · cases h0
  · cases hv
    refine ⟨cur, hb, fun p hp => ?_, hbase, hn⟩
    have e : ∀ i : Nat, i < l.length * 2 → cur[i]? = (l.flatMap fltC)[i]? := fun i hi => by
      rw [← hxs, List.getElem?_take_of_lt hi, Array.getElem?_toList]
    rw [e _ (by omega), e _ (by omega)]
    exact fltC_get l p hp
theorem frow_of_cells {w : World} {g cap : Nat} {C : Array Value} {m : List Flt} {t : TypeId} (hb : w.heap[g]? = some (.cells C t (0, 0))) (h : FCells C m.length (fun p => m.getD p (0, 0))) : FRow w (.slice (some ⟨g, 0, none⟩) m.length cap) m :=
  .inr ⟨g, 0, cap, rfl, (Array.getElem?_eq_some_iff.1 hb).1, fun i hi => by
    obtain ⟨h1, h2⟩ := h i hi
    rw [Nat.zero_add]
    exact ⟨by rw [cell_of_heap hb]; exact h1, by rw [cell_of_heap hb]; exact h2⟩⟩
theorem getD_reverse (l : List Flt) (p : Nat) (h : p < l.length) : l.reverse.getD p (0, 0) = l.getD (l.length - 1 - p) (0, 0) := by
  rw [List.getD_eq_getElem?_getD, List.getD_eq_getElem?_getD, List.getElem?_reverse h]
theorem info_flt : (Tryd.prog.info? 34).map (fun i => (i.zero, i.size, i.bytes)) = some (some (.agg #[.int .i64 0, .int .i64 0]), 2, 16) := by kernel_rfl

/-- What explain answers. -/
def ExplainPost (w : World) (s r : List UInt8) (e : Ending) (w' : World) : Prop :=
  ∃ (v : Value) (l : List Flt), e = .returned v ∧ FRow w' v l ∧ Pre s r s.length r.length l ∧ (l.length : Int) = dT s r s.length r.length ∧ Below w.heap.size w w' ∧ ∀ a n c, v = .slice a n c → n ≤ c
/-- The part that last finds leads to the place before. -/
theorem best_part {s r : List UInt8} {i j : Nat} (hi : 0 < i) (hin : i ≤ s.length) (hlt : dT s r i j < 200) :
    ∃ i' j', partTo s r (bestK (dT s r) s r i j 4) i' j' i j ∧ dT s r i j = dT s r i' j' + (if bestK (dT s r) s r i j 4 = 0 then 0 else 1) ∧ (i : Int) = i' + psN (bestK (dT s r) s r i j 4) ∧ (j : Int) = j' + prN (bestK (dT s r) s r i j 4) := by
  obtain ⟨hb, hm⟩ := part_of hi hin hlt
  obtain ⟨h1, h2, h3⟩ := minK_le (dT s r) s r i j
  have hk4 : bestK (dT s r) s r i j 4 < 4 := by rcases bestK_lt (dT s r) s r i j 4 with h | h <;> omega
  have he : endI (dT s r) s r (bestK (dT s r) s r i j 4) i j = dT s r i j := by
    have g1 := h2 _ hk4
    rcases h3 with h3 | ⟨kd, hk, h3⟩
    · omega
    · have := bestK_le (dT s r) s r i j 4 kd hk; omega
  obtain ⟨i', j', p1, p2, p3, p4⟩ := endI_part hk4 hin (band_le hb) (by rw [he]; exact hlt)
  exact ⟨i', j', p1, by rw [← he]; exact p2, p3, p4⟩

set_option maxRecDepth 100000 in
set_option maxHeartbeats 2000000 in
theorem explain_any (w : World) (Sb base : Nat) (s r : List UInt8) (hS : Sheet w Sb base r s.length s (dT s r)) (hP : Parts w) (hlt : dT s r s.length r.length < 200) :
    Calls Tryd.prog 40 #[.pointer (some ⟨Sb, 0, none⟩)] w (ExplainPost w s r) := by
  have hsl := hS.len
  have hrl := hS.lenr
  have HS := Lib.hid hS
  have HP := Lib.hid hP
  have HLT := Lib.hid hlt
  obtain ⟨C, sv, hh, hC, h0, h1, h2, hrow, hT⟩ := hS.lay
  have c0 : w.cell? ⟨Sb, 0, none⟩ = some (.string (B r)) := by rw [cell_of_heap hh]; exact h0
  have c2 : w.cell? ⟨Sb, 2, none⟩ = some sv := by rw [cell_of_heap hh]; exact h2
  obtain ⟨a, cap, rfl⟩ : ∃ a cap, sv = .slice a s.length cap := by
    rcases hrow.2 with ⟨h, h'⟩ | ⟨g, cap, cur, hv, _⟩
    · exact ⟨none, 0, by rw [h, show s.length = 0 by omega]⟩
    · exact ⟨_, _, hv⟩
  obtain ⟨i0, hi, hz0, hz2, hz3⟩ := info_parts info_flt
  clear hS hP hlt hh hC h0 h1 h2 hrow hT
  go_enter Tryd.func40, Tryd.ntmps40
  go_wp2_with fail
  go_quiet (fail)
  go_wp2_with fail
  go_loopw [3, 4, 5] (fun lv i j wr => ∃ (I J : Nat) (acc : List Flt), i = .int .i64 I ∧ j = .int .i64 J ∧ I ≤ s.length ∧ J ≤ r.length ∧ wr.ownsRow w.heap.size 34 2 lv acc.length (acc.flatMap fltC) ∧ acc.length + I ≤ s.length ∧ Hid (dT s r I J < 200) ∧ Hid (dT s r I J + acc.length = dT s r s.length r.length) ∧ Hid (∀ l0, Pre s r I J l0 → Pre s r s.length r.length (l0 ++ acc.reverse)) ∧ Hid (Below w.heap.size w wr)) (fun _ i _ _ => (intOf i).toNat)
  case atStart => exact ⟨s.length, r.length, [], rfl, rfl, Nat.le_refl _, Nat.le_refl _, World.ownsRow_nil _ _ _ _, by simp, HLT, Lib.hid (by simp), Lib.hid (fun l0 h => by simpa using h), Lib.hid (below_drewN (Below.refl _ _) _)⟩
  case round =>
    obtain ⟨I, J, acc, rfl, rfl, hI, hJ, hrow, hacc, hlt, hsum, hpre, hB⟩ := hrel
    clear c0 c2
    by_cases hI0 : 0 < I
    · have hIi : (0 : Int) < I := by omega
      obtain ⟨i', j', hp, hd, e1, e2⟩ := best_part hI0 hI hlt.out
      have HLA := Lib.hid (last_any wr Sb base r s.length s (dT s r) I J (HS.out.keep hB.out) hI hJ (by obtain ⟨fr, h⟩ := HP.out; exact ⟨fr, (hB.out.block _ (Array.getElem?_eq_some_iff.1 h).1).trans h⟩))
      have hk4 : bestK (dT s r) s r I J 4 < 4 := by rcases bestK_lt (dT s r) s r I J 4 with h | h <;> omega
      obtain ⟨K, eK⟩ : ∃ K, bestK (dT s r) s r I J 4 = K := ⟨_, rfl⟩
      rw [eK] at hp hd e1 e2 HLA hk4
      have hps : psN K = 1 ∨ psN K = 2 := by unfold psN; split <;> simp
      have hpr : 0 ≤ prN K ∧ prN K ≤ 2 := by unfold prN; split <;> (try split) <;> omega
      have hlt' : dT s r i' j' < 200 := by have := hlt.out; split at hd <;> omega
      have HLT2 := Lib.hid hlt'
      have HD := Lib.hid hd
      have HPT := Lib.hid hp
      unfold partN at HLA
      obtain ⟨p, ep⟩ : ∃ p, psN K = p := ⟨_, rfl⟩
      obtain ⟨q, eq⟩ : ∃ q, prN K = q := ⟨_, rfl⟩
      rw [ep] at HLA hps e1
      rw [eq] at HLA hpr e2
      have hi'1 : i' < I := by omega
      have hj'1 : j' ≤ J := by omega
      have HW1 : Hid (IntKind.i64.wrap ((I : Int) - p) = i') := Lib.hid (by rw [IntWalk.i64_in _ (by omega)]; omega)
      have HW2 : Hid (IntKind.i64.wrap ((J : Int) - q) = j') := Lib.hid (by rw [IntWalk.i64_in _ (by omega)]; omega)
      clear hp hd hlt' eK ep eq e1 e2 hps hpr
      by_cases hK : K = 0
      · have hk0 : ((K : Int) != 0) = false := by rw [hK]; simp
        have HS2 : Hid (dT s r i' j' + acc.length = dT s r s.length r.length) := Lib.hid (by have := HD.out; rw [if_pos hK] at this; have := hsum.out; omega)
        have HPR2 : Hid (∀ l0, Pre s r i' j' l0 → Pre s r s.length r.length (l0 ++ acc.reverse)) := Lib.hid (fun l0 h => hpre.out _ (by have := h.part HPT.out; unfold fltOf at this; rw [if_pos hK, List.append_nil] at this; exact this))
        clear hK
        go_wp2_with fail
        refine HLA.out.mono ?_
        rintro e w2 ⟨rfl, hb⟩
        have hrow2 := ownsRow_below hrow hb
        have HB2 := Lib.hid (hB.out.trans (hb.mono hB.out.size))
        clear hb hrow
        go_wp2_with fail
        have hw1 := HW1.out
        have hw2 := HW2.out
        go_quiet (fail)
        clear hw1 hw2
        go_wp2_with fail
        go_roundw
        case rel => exact ⟨i', j', acc, rfl, rfl, by omega, by omega, hrow2.alloc _, by omega, HLT2, HS2, HPR2, Lib.hid (below_drewN (HB2.out.alloc HB2.out.size _) _)⟩
        case measure => simp [intOf]; omega
      · have hk0 : ((K : Int) != 0) = true := by rw [bne_iff_ne]; omega
        have HS2 : Hid (dT s r i' j' + (acc.length + 1 : Nat) = dT s r s.length r.length) := Lib.hid (by have := HD.out; rw [if_neg hK] at this; have := hsum.out; omega)
        have HPR2 : Hid (∀ l0, Pre s r i' j' l0 → Pre s r s.length r.length (l0 ++ (acc ++ [((K : Int), (i' : Int))]).reverse)) := Lib.hid (fun l0 h => by
          have := hpre.out _ (h.part HPT.out)
          unfold fltOf at this
          rw [if_neg hK] at this
          simpa using this)
        clear hK
        go_wp2_with fail
        refine HLA.out.mono ?_
        rintro e w2 ⟨rfl, hb⟩
        have hrow2 := ownsRow_below hrow hb
        have HB2 := Lib.hid (hB.out.trans (hb.mono hB.out.size))
        clear hb hrow
        go_wp2_with fail
        have hw1 := HW1.out
        have hw2 := HW2.out
        go_quiet (fail)
        clear hw1 hw2
        have hz2' : (w2.alloc (.cells #[.int .i64 K, .int .i64 p, .int .i64 q] 106)).heap.size = w2.heap.size + 1 := World.size_alloc _ _
        have hrow3 : (((w2.alloc (.cells #[.int .i64 K, .int .i64 p, .int .i64 q] 106)).alloc (.cells #[.int .i64 K, .int .i64 i'] 34)).drewN nq).ownsRow w.heap.size 34 2 u3 acc.length (acc.flatMap fltC) := ownsRow_drewN ((hrow2.alloc _).alloc _) nq
        have hcn : ∀ x u, [Value.int .i64 (K : Int), Value.int .i64 (i' : Int)][x]? = some u → (((w2.alloc (.cells #[.int .i64 K, .int .i64 p, .int .i64 q] 106)).alloc (.cells #[.int .i64 K, .int .i64 i'] 34)).drewN nq).cell? ((⟨w2.heap.size + 1, 0, none⟩ : Addr).add x) = some u := fun x u h => by
          rw [World.cell?_drewN]
          have := cell_two_new' (w2.alloc (.cells #[.int .i64 K, .int .i64 p, .int .i64 q] 106)) _ _ 34 x u h
          rw [hz2'] at this
          exact this
        have HROW := Lib.hid hrow3
        have HCN := Lib.hid hcn
        have hzz : w.heap.size ≤ w2.heap.size := HB2.out.size
        clear hz2' hrow3 hcn hrow2
        go_wp2_with (at_builtin; refine wpList_append_own _ rfl _ _ 22 rfl w.heap.size 34 i0 (.agg #[.int .i64 0, .int .i64 0]) 2 16 Tryd.underlying22 hi hz0 hz2 hz3 rfl (by decide) _ _ _ rfl HROW.out ⟨w2.heap.size + 1, 0, none⟩ 1 1 [.int .i64 (K : Int), .int .i64 (i' : Int)] rfl rfl HCN.out (by simp [Value.oneCell']) (by unfold maxLen; omega) (by omega) (by simp; omega) ?_; intro v' w3 hown' hgrow _)
        go_roundw
        case rel => exact ⟨i', j', acc ++ [((K : Int), (i' : Int))], rfl, rfl, by omega, by omega, by rw [List.length_append, List.flatMap_append]; simpa [fltC] using hown', by simp; omega, HLT2, Lib.hid (by rw [List.length_append]; exact HS2.out), HPR2, Lib.hid ((below_drewN ((HB2.out.alloc HB2.out.size _).alloc (by simp; omega) _) nq).grown hgrow (by simp; omega) (fun k e => (HROW.out.lt k e).1))⟩
        case measure => simp [intOf]; omega
    · obtain rfl : I = 0 := by omega
      have hJ0 : J = 0 := by
        have := hlt.out
        rw [dT_zero] at this
        split at this
        · assumption
        · omega
      subst hJ0
      have HPR := Lib.hid (hpre.out [] .nil)
      have HLN : Hid ((acc.reverse.length : Int) = dT s r s.length r.length) := Lib.hid (by have := hsum.out; rw [dT_zero, if_pos rfl] at this; rw [List.length_reverse]; omega)
      have HROW := Lib.hid hrow
      have hal : acc.length ≤ 1000000 := by omega
      by_cases h0 : acc = []
      · obtain ⟨b, bc, rfl⟩ : ∃ b bc, u3 = .slice b 0 bc := by
          subst h0
          rcases hrow.2 with ⟨h, _⟩ | ⟨g, cap, cur, hv, _⟩
          · exact ⟨_, _, h⟩
          · exact ⟨_, _, hv⟩
        have HA := Lib.hid h0
        clear hrow h0
        go_wp2_with fail
        refine (reverse_none _ _ _).mono ?_
        rintro e w4 ⟨rfl, rfl⟩
        go_wp2_with fail
        go_ret
        exact ⟨_, acc.reverse, rfl, .inl ⟨_, _, rfl, by rw [HA.out]; rfl⟩, by simpa using HPR.out, HLN.out, hB.out, fun x n c e => by cases e; omega⟩
      · obtain ⟨g, gc, rfl⟩ : ∃ g gc, u3 = .slice (some ⟨g, 0, none⟩) acc.length gc := by
          rcases hrow.2 with ⟨_, h⟩ | ⟨g, cap, cur, hv, _⟩
          · exact absurd (List.length_eq_zero_iff.1 h) h0
          · exact ⟨_, _, hv⟩
        obtain ⟨C, hCb, hCc, hgb, hgc⟩ := fcells_of_row hrow
        have HRV := Lib.hid (reverse_any g gc acc wr C hCb hCc hal)
        clear hrow h0 hCb hCc
        go_wp2_with fail
        refine HRV.out.mono ?_
        rintro e w4 ⟨rfl, ⟨C', hb', hc'⟩, hB4⟩
        have HFR : Hid (FRow w4 (.slice (some ⟨g, 0, none⟩) acc.length gc) acc.reverse) := Lib.hid (by
          have := frow_of_cells (cap := gc) (m := acc.reverse) hb' (by rw [List.length_reverse]; exact hc'.congr (fun p hp => (getD_reverse acc p hp).symm))
          rwa [List.length_reverse] at this)
        have HB5 := Lib.hid (hB.out.trans (hB4 _ hgb))
        clear hb' hc' hB4
        go_wp2_with fail
        go_ret
        exact ⟨_, acc.reverse, rfl, HFR.out, by simpa using HPR.out, HLN.out, HB5.out, fun x n c e => by cases e; exact hgc⟩
end Go.Proofs.YtgcaldceiogkaaaDoor

/-! Explain of package beam. -/
namespace Go.Proofs.YtgcaldceiogkaaaDoor
open Go.RowKit Go.Shelf

theorem Explain_err (s r : List UInt8) (w : World) (hs : s.length ≤ maxLen) (hr : r.length ≤ maxLen) (hE : bothE s r ≠ 0) :
    Calls Tryd.prog 17 #[.string (B s), .string (B r)] w fun e w' => e = .returned (.tuple #[.slice none 0 0, .int .i64 (bothE s r)]) ∧ Below w.heap.size w w' := by
  obtain ⟨q, eq⟩ : ∃ q, bothE s r = q := ⟨_, rfl⟩
  have HQ : Hid (bothE (B s).data.toList (B r).data.toList = q) := Lib.hid (by rw [L_B, L_B]; exact eq)
  rw [eq] at hE ⊢
  have hne : (q != 0) = true := by simpa using hE
  have HS : Hid ((B s).size ≤ maxLen) := Lib.hid (by rw [size_B]; exact hs)
  have HR : Hid ((B r).size ≤ maxLen) := Lib.hid (by rw [size_B]; exact hr)
  clear hE eq hs hr
  go_enter Tryd.func17, Tryd.ntmps17
  go_wp2_with fail
  refine (checkBoth_any _ _ _ HS.out HR.out).mono ?_
  rintro e w1 ⟨rfl, hb1⟩
  rw [HQ.out]
  go_wp2_with fail
  go_ret2
  exact ⟨rfl, hb1⟩

/-- What Explain answers where flashes have no error: the error of none, or faults. -/
def ExplPost (w : World) (s r : List UInt8) (e : Ending) (w' : World) : Prop :=
  Below w.heap.size w w' ∧ ((¬ dT s r s.length r.length ≤ s.length ∧ e = .returned (.tuple #[.slice none 0 0, .int .i64 5])) ∨
    (dT s r s.length r.length ≤ s.length ∧ ∃ (v : Value) (l : List Flt), e = .returned (.tuple #[v, .int .i64 0]) ∧ FRow w' v l ∧ Pre s r s.length r.length l ∧ (l.length : Int) = dT s r s.length r.length ∧ ∀ a n c, v = .slice a n c → n ≤ c))

set_option maxRecDepth 100000 in
theorem Explain_ok (s r : List UInt8) (w : World) (hE : bothE s r = 0) (hP : Parts w) :
    Calls Tryd.prog 17 #[.string (B s), .string (B r)] w (ExplPost w s r) := by
  obtain ⟨h1, h2⟩ := bothE_le hE
  have HE : Hid (bothE (B s).data.toList (B r).data.toList = 0) := Lib.hid (by rw [L_B, L_B]; exact hE)
  have HS : Hid ((B s).size ≤ maxLen) := Lib.hid (by rw [size_B]; unfold maxLen; omega)
  have HR : Hid ((B r).size ≤ maxLen) := Lib.hid (by rw [size_B]; unfold maxLen; omega)
  have HS1 : Hid ((B s).size ≤ 100) := Lib.hid (by rw [size_B]; exact h1)
  have HP := Lib.hid hP
  clear hE hP
  go_enter Tryd.func17, Tryd.ntmps17
  go_wp2_with fail
  refine (checkBoth_any _ _ _ HS.out HR.out).mono ?_
  rintro e w1 ⟨rfl, hb1⟩
  rw [HE.out]
  have HB1 := Lib.hid hb1
  have HP1 : Hid (Parts w1) := Lib.hid (by obtain ⟨fr, h⟩ := HP.out; exact ⟨fr, (hb1.block _ (Array.getElem?_eq_some_iff.1 h).1).trans h⟩)
  clear hb1
  go_wp2_with fail
  refine (filled_any (B s) r w1 HS1.out h2 HP1.out).mono ?_
  rintro e w2 ⟨rfl, hb2, base, hS2⟩
  rw [L_B, size_B] at hS2
  have hS3 : Sheet w2 w1.heap.size base r s.length s (dT s r) := hS2
  have HB2 := Lib.hid (HB1.out.trans (hb2.mono HB1.out.size))
  have HP2 : Hid (Parts w2) := Lib.hid (by obtain ⟨fr, h⟩ := HP1.out; exact ⟨fr, (hb2.block _ (Array.getElem?_eq_some_iff.1 h).1).trans h⟩)
  have HSH := Lib.hid hS3
  clear hb2 hS2 hS3
  go_wp2_with fail
  refine (sfewest_any _ _ _ _ _ _ _ HSH.out (by omega)).mono ?_
  rintro e w3 ⟨rfl, hb3⟩
  have HB3 := Lib.hid (HB2.out.trans (hb3.mono HB2.out.size))
  have HSH3 := Lib.hid (HSH.out.keep hb3)
  have HP3 : Hid (Parts w3) := Lib.hid (by obtain ⟨fr, h⟩ := HP2.out; exact ⟨fr, (hb3.block _ (Array.getElem?_eq_some_iff.1 h).1).trans h⟩)
  unfold fewV
  clear hb3
  by_cases hc : dT s r s.length r.length ≤ s.length
  · rw [if_pos hc]
    have HC := Lib.hid hc
    have HL : Hid (dT s r s.length r.length < 200) := Lib.hid (by omega)
    obtain ⟨t, et⟩ : ∃ t, dT s r s.length r.length = t := ⟨_, rfl⟩
    rw [et]
    clear hc et
    go_wp2_with fail
    refine (explain_any _ _ _ s r HSH3.out HP3.out HL.out).mono ?_
    rintro e w4 ⟨v, l, rfl, hv, hp, hl, hb4, hcap⟩
    have HX := Lib.hid (And.intro hv (And.intro hp (And.intro hl hcap)))
    have HB4 := Lib.hid (HB3.out.trans (hb4.mono HB3.out.size))
    clear hv hp hl hb4 hcap
    go_wp2_with fail
    go_ret2
    exact ⟨HB4.out, .inr ⟨HC.out, v, l, rfl, HX.out.1, HX.out.2.1, HX.out.2.2.1, HX.out.2.2.2⟩⟩
  · rw [if_neg hc]
    have HC := Lib.hid hc
    clear hc
    go_wp2_with fail
    go_ret2
    exact ⟨HB3.out, .inl ⟨by have := HC.out; omega, rfl⟩⟩
end Go.Proofs.YtgcaldceiogkaaaDoor
