/- send of package beam once more: whatever is no row of bytes, and no block that is named, lies as it lay. -/
import Derived.Test.YtjbdmlpadoiicaaGreatDoorE0
import Derived.Test.YtjbdmlpadoiicaaGreatDoorZ1
import Derived.Test.YtjbdmlpadoiicaaGreatDoorB1
import Derived.Test.YtjbdmlpadoiicaaGreatDoorB5
set_option linter.unusedVariables false
set_option linter.unusedSimpArgs false
namespace Go.Proofs.YtjbdmlpadoiicaaGreatDoor
open Go.RowKit Go.Shelf

/-- All blocks but those that are named, and rows of bytes, lie as they lay. -/
structure KeepU (base : Nat) (bs : List Nat) (w w' : World) : Prop where
  os : w'.os = w.os
  tape : w'.tape = w.tape
  output : w'.output = w.output
  size : w.heap.size ≤ w'.heap.size
  block : ∀ k, k < w.heap.size → k ∉ bs → (k < base ∨ ∀ C fr, w.heap[k]? ≠ some (.cells C 5 fr)) → w'.heap[k]? = w.heap[k]?
theorem KeepU.refl (base : Nat) (bs : List Nat) (w : World) : KeepU base bs w w := ⟨rfl, rfl, rfl, Nat.le_refl _, fun _ _ _ _ => rfl⟩
theorem KeepU.trans {base : Nat} {bs : List Nat} {a b c : World} (h : KeepU base bs a b) (k : KeepU base bs b c) : KeepU base bs a c :=
  ⟨k.os.trans h.os, k.tape.trans h.tape, k.output.trans h.output, Nat.le_trans h.size k.size, fun i hi hs hn => by
    have e := h.block i hi hs hn
    exact (k.block i (Nat.lt_of_lt_of_le hi h.size) hs (hn.imp id fun hn C fr => by rw [e]; exact hn C fr)).trans e⟩
theorem KeepU.mono {base : Nat} {bs cs : List Nat} {a b : World} (h : KeepU base bs a b) (hs : ∀ x ∈ bs, x ∈ cs) : KeepU base cs a b := ⟨h.os, h.tape, h.output, h.size, fun i hi hc hn => h.block i hi (fun hb => hc (hs i hb)) hn⟩
theorem KeepU.of_below {base : Nat} {bs : List Nat} {w w' : World} (h : Below w.heap.size w w') : KeepU base bs w w' := ⟨h.os, h.tape, h.output, h.size, fun k hk _ _ => h.block k hk⟩
theorem KeepU.setCell {base : Nat} {bs : List Nat} {w w' : World} (h : KeepU base bs w w') {b : Nat} (hb : b ∈ bs) (o : Nat) (v : Value) : KeepU base bs w (w'.setCell ⟨b, o, none⟩ v) :=
  ⟨h.os, h.tape, h.output, by simpa using h.size, fun k hk hs hn => (Below.heap_setCell _ _ _ k (fun e => hs (by rw [e]; exact hb))).trans (h.block k hk hs hn)⟩
theorem KeepU.appended {base : Nat} {bs : List Nat} {w w2 : World} {v : Value} {n : Nat} {xs : List Value} {o : Obj} (hrow : w.ownsRow base 5 1 v n xs) (hg : (w.alloc o).grownBy w2 v.ownBlock) : KeepU base bs w w2 :=
  ⟨hg.os, hg.tape, hg.output, Nat.le_trans (by simp) hg.size, fun k hk _ hn => by
    rw [hg.block k (by simp; omega) ?_, Below.heap_alloc _ _ _ hk]
    intro e
    rcases hrow.2 with ⟨rfl, _⟩ | ⟨g, cap, cur, rfl, hbg, hgb, _⟩
    · simp [Value.ownBlock] at e
    · obtain rfl : k = g := by simpa [Value.ownBlock] using e
      rcases hn with hn | hn
      · omega
      · exact hn _ _ hgb⟩
theorem KeepU.box {base : Nat} {bs : List Nat} {w w' : World} (h : KeepU base bs w w') {b : Nat} {C : Array Value} {t : TypeId} {fr : Nat × Nat} (hb : w.heap[b]? = some (.cells C t fr)) (ht : t ≠ 5) (hs : b ∉ bs) : w'.heap[b]? = some (.cells C t fr) :=
  (h.block b (Array.getElem?_eq_some_iff.1 hb).1 hs (.inr fun C' fr' e => by rw [hb] at e; cases e; exact ht rfl)).trans hb
theorem KeepU.old {base : Nat} {bs : List Nat} {w w' : World} (h : KeepU base bs w w') {k : Nat} (hk : k < w.heap.size) (hs : k ∉ bs) (hb : k < base) : w'.heap[k]? = w.heap[k]? := h.block k hk hs (.inl hb)
theorem KeepU.parts {base : Nat} {bs : List Nat} {w w' : World} (h : KeepU base bs w w') (h1 : 3 < base) (h2 : 3 ∉ bs) (hP : Parts w) : Parts w' := by
  obtain ⟨fr, hP⟩ := hP; exact ⟨fr, (h.old (Array.getElem?_eq_some_iff.1 hP).1 h2 h1).trans hP⟩
theorem KeepU.codes {base : Nat} {bs : List Nat} {w w' : World} (h : KeepU base bs w w') (h0 : 0 < w.heap.size) (h1 : 0 < base) (h2 : 0 ∉ bs) (hP : Codes w) : Codes w' := fun v hv =>
  (World.cell?_of_block (h.old h0 h2 h1)).trans (hP v hv)

set_option maxRecDepth 100000 in
set_option maxHeartbeats 1000000 in
theorem send_u (w : World) (Sb base : Nat) (r : List UInt8) (most : Int) (sent : List UInt8) (T : Nat → Nat → Int) (c : UInt8) (hS : Sheet w Sb base r most sent T) (hl : sent.length < 100) (hm : 0 ≤ most ∧ most ≤ 100)
    (hP : Parts w) (hp1 : 3 < base) (hp2 : 3 ≠ Sb) :
    Calls Tryz.prog 98 #[.pointer (some ⟨Sb, 0, none⟩), .int .u8 c.toNat] w fun e w' => e = .returned (.bool (possB T (sent ++ [c]) r most)) ∧ Sheet w' Sb base r most (sent ++ [c]) (nextT T (sent ++ [c]) r most) ∧ KeepU base [Sb] w w' := by
  obtain ⟨sent', hse⟩ : ∃ s, sent ++ [c] = s := ⟨_, rfl⟩
  have hsl : sent'.length = sent.length + 1 := by rw [← hse]; simp
  rw [hse]
  obtain ⟨C, sv, hh, hC, h0, h1, h2, hrow, hT⟩ := hS.lay
  have c2 : w.cell? ⟨Sb, 2, none⟩ = some sv := by rw [cell_of_heap hh]; exact h2
  obtain ⟨i0, hi, hz0, hz2, hz3⟩ := info_parts info_u8
  have hSs := Lib.hid hS
  have hlen := hS.len
  have hlenr := hS.lenr
  have hsm := hS.small
  have HTf := Lib.hid hS.fits
  have hbe := hS.below
  have HC := Lib.hid (And.intro hh (And.intro h0 h1))
  clear hh h0 h1 h2 hT hC hS
  have hm0 := hm.1
  have hm1 := hm.2
  go_enter Tryz.func98, Tryz.ntmps98
  go_wp2_with (at_builtin; refine wpList_append_own _ rfl _ _ 105 rfl base 5 i0 (.int .u8 0) 1 1 Tryz.underlying105 hi hz0 hz2 hz3 rfl (by decide) _ _ _ rfl (hrow.alloc _) ⟨w.heap.size, 0, none⟩ 1 1 [.int .u8 c.toNat] rfl rfl (cell_one_new _ _ _) (by simp [Value.oneCell']) (by unfold maxLen; omega) (by omega) (by simp; omega) ?_; intro v' w2 hown' hgrow _; obtain ⟨g2, cap2, rfl⟩ := row_some hown' (by omega); have hb2 : Below base w w2 := ((Below.refl base w).alloc hsm _).grown hgrow (by simp; omega) (fun k e => (hrow.lt k e).1); have c2' : w2.cell? ⟨Sb, 2, none⟩ = some sv := (hb2.cell (p := ⟨Sb, 2, none⟩) hbe).trans c2; have c1' : w2.cell? ⟨Sb, 1, none⟩ = some (.int .i64 most) := (hb2.cell (p := ⟨Sb, 1, none⟩) hbe).trans ((cell_of_heap HC.out.1 _).trans HC.out.2.2); have f2 : w2.frozen? ⟨Sb, 2, none⟩ = false := free_of_heap ((hb2.block _ hbe).trans HC.out.1) _; have ku2 : KeepU base [Sb] w w2 := KeepU.appended hrow hgrow; clear hgrow c2)
  have SS := hSs.out.sentTo hb2 (.slice (some ⟨g2, 0, none⟩) (sent.length + 1) cap2) (sent' := sent') (by rw [show sent'.length = sent.length + 1 from hsl, ← hse]; simpa [encU] using hown') (by omega)
  have KK := (KeepSb.of_below (Sb := Sb) hb2).setCell 2 (.slice (some ⟨g2, 0, none⟩) (sent.length + 1) cap2)
  have KU := ku2.setCell (b := Sb) (by simp) 2 (.slice (some ⟨g2, 0, none⟩) (sent.length + 1) cap2)
  clear ku2
  obtain ⟨W1, hW1⟩ : ∃ W1, w2.setCell ⟨Sb, 2, none⟩ (.slice (some ⟨g2, 0, none⟩) (sent.length + 1) cap2) = W1 := ⟨_, rfl⟩
  rw [hW1] at SS KK KU ⊢
  clear hW1 hown' c2' c1' f2 HC hrow hSs hb2
  obtain ⟨lo, hlo⟩ : ∃ lo : Nat, max 0 ((sent.length : Int) + 1 - most) = lo := ⟨(max 0 ((sent.length : Int) + 1 - most)).toNat, by omega⟩
  go_loopw [6, 7] (fun p j wr => ∃ J : Nat, lo ≤ J ∧ J ≤ 101 ∧ ((J : Int) ≤ min (r.length : Int) (sent.length + 1 + most) + 1 ∨ J = lo) ∧ j = .int .i64 J ∧ p = .bool (possTo T sent' r most J) ∧ Hid (Sheet wr Sb base r most sent' (midT T sent' r most J)) ∧ KeepSb base Sb w wr ∧ Hid (KeepU base [Sb] w wr)) (fun _ j _ => 102 - (intOf j).toNat)
  case atStart =>
    exact ⟨lo, Nat.le_refl _, by omega, .inr rfl, by rw [hlo], by rw [possTo_start (by omega)], Lib.hid (by rw [midT_start (by omega)]; exact SS), KK, Lib.hid KU⟩
  case round =>
    have HLO := Lib.hid hlo
    clear KK KU SS hlo
    obtain ⟨J, hJ0, hJ1, hJ2, rfl, rfl, hX, hKp, hKU⟩ := hrel
    have c0 : wr.cell? ⟨Sb, 0, none⟩ = some (.string (B r)) := by
      obtain ⟨C', sv', hh, hC, h0, h1, h2, hrow, hT⟩ := hX.out.lay
      rw [cell_of_heap hh]; exact h0
    have c1 : wr.cell? ⟨Sb, 1, none⟩ = some (.int .i64 most) := by
      obtain ⟨C', sv', hh, hC, h0, h1, h2, hrow, hT⟩ := hX.out.lay
      rw [cell_of_heap hh]; exact h1
    have w1 : IntKind.i64.wrap ((sent.length : Int) + 1 + most) = (sent.length : Int) + 1 + most := IntWalk.i64_in _ (by omega)
    by_cases hin : (J : Int) ≤ min (r.length : Int) (sent.length + 1 + most)
    · have hq : decide ((J : Int) ≤ min (r.length : Int) ((sent.length : Int) + 1 + most)) = true := decide_eq_true hin
      obtain ⟨⟨ft, fr⟩, hpp⟩ := hKp.parts hp1 hp2 hP
      have hpp' : ∀ m, (wr.drewN m).heap[3]? = some (.cells partsA ft fr) := fun _ => hpp
      go_wp2_with fail
      go_quiet (fail)
      go_wp2_with (((with_reducible refine wpList_load_row rfl 179 _ rfl 3 ?_ ft partsA fr (.array 4 178) (hpp' _) Tryz.underlying179 ?_ infoParts ?_); exact rfl; exact rfl))
      obtain ⟨wo, rfl⟩ : ∃ wo, wo = wr := ⟨_, rfl⟩
      go_loopw [8, 50] (fun v kk wj => ∃ k : Nat, k ≤ 4 ∧ kk = .int .i64 k ∧ v = .int .i16 (minK T sent' r sent'.length J k) ∧ Below wo.heap.size wo wj) (fun _ kk _ => 4 - (intOf kk).toNat)
      case atStart => exact ⟨0, by omega, rfl, rfl, below_drewN (Below.refl _ _) _⟩
      case round =>
        obtain ⟨k, hk, rfl, rfl, hB⟩ := hrel
        by_cases hk4 : k < 4
        · have hix : ∀ W', (Instr.index 179 (.agg partsA) (.int .i64 k)).run Tryz.prog W' = .ok (.agg #[.int .i64 k, .int .i64 (psN k), .int .i64 (prN k)]) W' := parts_at k hk4
          have hbk : Below wr.heap.size wr (wr.alloc (.cells #[.int .i64 k, .int .i64 (psN k), .int .i64 (prN k)] 178)) := (Below.refl _ wr).alloc (Nat.le_refl _) _
          have XS := (hX.out.keep hB).keep hbk
          have hE : endI (midT T sent' r most J) sent' r k sent'.length J = endI T sent' r k sent'.length J := endI_congr fun a b ha => midT_old a b ha
          have hCl := ending_any _ Sb base r most sent' _ k sent'.length J hk4 XS (Nat.le_refl _) (by omega)
          rw [hE, hsl] at hCl
          have HCl := Lib.hid hCl
          have HM : Hid (minK T sent' r sent'.length J (k + 1) = min (minK T sent' r sent'.length J k) (endI T sent' r k (sent.length + 1) J)) := Lib.hid (by rw [← hsl]; rfl)
          clear hE XS hCl
          go_wp2_with fail
          refine HCl.out.mono ?_
          rintro e w' ⟨rfl, hb'⟩
          go_wp2_with fail
          go_roundw
          case rel => exact ⟨k + 1, by omega, by go_num, by rw [HM.out, hsl], (hB.trans (hbk.mono hB.size)).trans (hb'.mono (Nat.le_trans hB.size hbk.size))⟩
          case measure => simp [intOf]; omega
        · obtain rfl : k = 4 := by omega
          have hTf := HTf.out
          have hXb := hX.out.keep hB
          have hM := minK_bd hTf (s := sent') (r := r) (i := sent'.length) (j := J) (by omega) (by omega) 4
          have hlo := HLO.out
          have hib : inBand most r.length sent'.length J = true := by unfold inBand; rw [decide_eq_true (by omega), decide_eq_true (by omega)]; rfl
          have HPs := Lib.hid (possTo_succ (T := T) (s := sent') (r := r) (most := most) hib)
          have HMs := Lib.hid (midT_succ (T := T) (s := sent') (r := r) (most := most) hib)
          have d1 : wr.cell? ⟨Sb, 1, none⟩ = some (.int .i64 most) := by
            obtain ⟨C', sv', hh, hC, h0, h1, h2, hrow, hT⟩ := hXb.lay
            rw [cell_of_heap hh]; exact h1
          obtain ⟨ov, d2⟩ : ∃ ov, wr.cell? ⟨Sb, 3 + (sent.length + 1) * 101 + J, none⟩ = some (.int .i16 ov) := by
            obtain ⟨C', sv', hh, hC, h0, h1, h2, hrow, hT⟩ := hXb.lay
            exact ⟨_, (cell_of_heap hh _).trans (hT (sent.length + 1) J (by omega) (by omega))⟩
          have f2 : wr.frozen? ⟨Sb, 3 + (sent.length + 1) * 101 + J, none⟩ = false := by
            obtain ⟨C', sv', hh, _⟩ := hXb.lay
            exact free_of_heap hh _
          rw [hsl] at hM HPs HMs ⊢
          obtain ⟨M, eM⟩ : ∃ M, minK T sent' r (sent.length + 1) J 4 = M := ⟨_, rfl⟩
          obtain ⟨pb, ePb⟩ : ∃ pb, possTo T sent' r most J = pb := ⟨_, rfl⟩
          rw [eM] at hM HPs HMs ⊢
          rw [ePb] at HPs ⊢
          have hM0 := hM.1
          have hM1 := hM.2
          have wM : IntKind.i64.wrap M = M := IntWalk.i64_in _ (by omega)
          have XP := Lib.hid (hXb.put (sent.length + 1) J M (by omega) (by omega) hM)
          have hKK := Lib.hid ((hKp.trans (KeepSb.of_below (hB.mono (Nat.le_trans hsm hKp.size)))).setCell (3 + (sent.length + 1) * 101 + J) (.int .i16 M))
          have hKV := Lib.hid ((hKU.out.trans (KeepU.of_below hB)).setCell (b := Sb) (by simp) (3 + (sent.length + 1) * 101 + J) (.int .i16 M))
          clear hTf hXb hM hib eM ePb hlo
          cases pb <;> by_cases hMm : M ≤ most
          all_goals
            go_wp2_with fail
            go_roundw
            case rel => exact ⟨J + 1, by omega, by omega, .inl (by omega), by go_num, by rw [HPs.out]; simp [hMm], Lib.hid (by rw [HMs.out]; exact XP.out), hKK.out, hKV⟩
            case measure => simp [intOf]; omega
    · have hq : decide ((J : Int) ≤ min (r.length : Int) ((sent.length : Int) + 1 + most)) = false := decide_eq_false hin
      have HPE := Lib.hid (possTo_end (T := T) (s := sent') (r := r) (most := most) (m := J) (by rw [hsl]; omega))
      have HME := Lib.hid (midT_end (T := T) (s := sent') (r := r) (most := most) (m := J) (by rw [hsl]; omega))
      have HKp := Lib.hid hKp
      clear hin hKp hJ2
      go_wp2_with fail
      go_quiet (fail)
      go_wp2_with fail
      have hbq : Below wr.heap.size wr (wr.drewN nq) := below_drewN (Below.refl _ _) _
      go_ret
      exact ⟨ret_val (by rw [HPE.out]; rfl), by rw [← HME.out]; exact hX.out.keep hbq, hKU.out.trans (KeepU.of_below hbq)⟩
end Go.Proofs.YtjbdmlpadoiicaaGreatDoor

/-! spell of package beam: letters or signs are added to a sheet as long as what is received can begin so. -/
namespace Go.Proofs.YtjbdmlpadoiicaaGreatDoor
open Go.RowKit Go.Shelf
attribute [local go_sem] Oper.semAt_some

theorem Sheet.own {W W' : World} {Sb base : Nat} {r : List UInt8} {most : Int} {sent : List UInt8} {T : Nat → Nat → Int} {row : Option Nat} (h : Sheet W Sb base r most sent T) (hg : W.grownBy W' row) (hr : ∀ k, row = some k → ∃ o : Obj, W.heap[k]? = some o ∧ o.isCells = false) : Sheet W' Sb base r most sent T := by
  obtain ⟨C, sv, hh, hC, h0, h1, h2, hrow, hT⟩ := h.lay
  refine ⟨⟨C, sv, (grownBy_keeps_cells hg hr hh rfl).trans hh, hC, h0, h1, h2, ⟨hrow.1, ?_⟩, hT⟩, h.below, Nat.le_trans h.small hg.size, h.fits, h.len, h.lenr⟩
  rcases hrow.2 with hn | ⟨g, cap, cur, hv, hg', hgb, rest⟩
  · exact .inl hn
  · exact .inr ⟨g, cap, cur, hv, hg', (grownBy_keeps_cells hg hr hgb rfl).trans hgb, rest⟩
theorem KeepU.own {base B : Nat} {bs : List Nat} {w W W' : World} {row : Option Nat} (h : KeepU base bs w W) (hB : w.heap.size ≤ B) (hg : W.grownBy W' row) (hr : ∀ k, row = some k → B ≤ k) : KeepU base bs w W' :=
  ⟨hg.os.trans h.os, hg.tape.trans h.tape, hg.output.trans h.output, Nat.le_trans h.size hg.size, fun k hk hs hn => (hg.block k (Nat.lt_of_lt_of_le hk h.size) (fun e => by have := hr k e.symm; omega)).trans (h.block k hk hs hn)⟩
theorem KeepU.fresh {base : Nat} {bs cs : List Nat} {w W0 W : World} (hb : Below w.heap.size w W0) (h : KeepU base cs W0 W) (hc : ∀ c ∈ cs, c ∈ bs ∨ w.heap.size ≤ c) : KeepU base bs w W :=
  ⟨h.os.trans hb.os, h.tape.trans hb.tape, h.output.trans hb.output, Nat.le_trans hb.size h.size, fun k hk hs hn => by
    have e := hb.block k hk
    refine (h.block k (Nat.lt_of_lt_of_le hk hb.size) (fun hm => ?_) (by rw [e]; exact hn)).trans e
    rcases hc k hm with h | h
    · exact hs h
    · omega⟩
theorem Sheet.other {W : World} {Sb base b : Nat} {r : List UInt8} {most : Int} {sent : List UInt8} {T : Nat → Nat → Int} {C : Array Value} {t : TypeId} {fr : Nat × Nat} (h : Sheet W Sb base r most sent T) (hb : W.heap[b]? = some (.cells C t fr)) (ht : t ≠ 5) (hne : b ≠ Sb) (o : Nat) (v : Value) : Sheet (W.setCell ⟨b, o, none⟩ v) Sb base r most sent T := by
  obtain ⟨C, sv, hh, hC, h0, h1, h2, hrow, hT⟩ := h.lay
  refine ⟨⟨C, sv, (Below.heap_setCell _ _ _ _ (fun e => hne e.symm)).trans hh, hC, h0, h1, h2, ⟨hrow.1, ?_⟩, hT⟩, h.below, by simpa using h.small, h.fits, h.len, h.lenr⟩
  rcases hrow.2 with hn | ⟨g, cap, cur, hv, hg', hgb, rest⟩
  · exact .inl hn
  · refine .inr ⟨g, cap, cur, hv, hg', (Below.heap_setCell _ _ _ _ (fun e => ?_)).trans hgb, rest⟩
    simp only at e; subst e; rw [hb] at hgb; cases hgb; exact ht rfl
theorem KeepU.keeps {base : Nat} {bs : List Nat} {w w' : World} (h : KeepU base bs w w') (hS : ∀ b ∈ bs, ∃ o : Obj, w.heap[b]? = some o ∧ o.isCells = true) : KeepsOthers w w' :=
  ⟨h.size, fun k o hk ho => (h.block k (Array.getElem?_eq_some_iff.1 hk).1 (fun hm => by
    obtain ⟨o', h1, h2⟩ := hS k hm
    rw [hk] at h1; cases h1; rw [ho] at h2; cases h2) (.inr fun C fr e => by rw [hk] at e; cases e; cases ho)).trans hk⟩

set_option maxRecDepth 100000 in
set_option maxHeartbeats 1000000 in
theorem spell_any (w : World) (Sb base : Nat) (r : List UInt8) (most : Int) (sent text : List UInt8) (T : Nat → Nat → Int) (hS : Sheet w Sb base r most sent T) (hF : Fit T most sent r) (hl : sent.length + (flashL text).length ≤ 100) (ht : text.length ≤ 100) (hv : ∀ c ∈ text, 0 ≤ valI c) (hm : 0 ≤ most ∧ most ≤ 100)
    (hC : Codes w) (hg : 0 < base) (hg2 : 0 ≠ Sb) (hP : Parts w) (hp1 : 3 < base) (hp2 : 3 ≠ Sb) :
    Calls Tryz.prog 72 #[.pointer (some ⟨Sb, 0, none⟩), .string (B text)] w fun e w' => ∃ b sent' T', e = .returned (.bool b) ∧ Sheet w' Sb base r most (sent ++ sent') T' ∧ Fit T' most (sent ++ sent') r ∧ KeepU base [Sb] w w' ∧
      (b = true → sent' = flashL text) ∧ (b = false → ∀ t, ¬ Can most (sent ++ (flashL text ++ t)) r) := by
  refine callsIn_wide.1 (?_ : CallsIn Fence.wide 3 _ _ _ _ _)
  have hgw : 0 < w.heap.size := Nat.lt_of_lt_of_le hg hS.small
  have hsb : Sb < w.heap.size := Nat.lt_of_lt_of_le hS.below hS.small
  have HS := Lib.hid hS; have HF := Lib.hid hF; have HP := Lib.hid hP; have HC := Lib.hid hC; have HV := Lib.hid hv
  have HG := Lib.hid hg; have HG2 := Lib.hid hg2; have HP1 := Lib.hid hp1; have HP2 := Lib.hid hp2; have HB := Lib.hid hS.small
  clear hS hF hP hC hv hg hg2 hp1 hp2
  refine callsIn_of_wp_marks Tryz.func72 rfl trivial ?_ rfl
  simp only [Tryz.ntmps72, List.size_toArray, List.length_cons, List.length_nil, Nat.reduceAdd, Nat.reduceSub, Array.replicate_succ, Array.replicate_zero, List.push_toArray, List.append_toArray, List.nil_append, List.cons_append]
  gi_wp2_with (refine ⟨trivial, ?_⟩; gi_at_call 59; refine (callsIn_wide.2 (flashes_any _ _)).mono ?_; rintro e w' ⟨rfl, rfl⟩)
  obtain ⟨W0, hW0⟩ : ∃ W0, (((w.alloc (.cells #[.pointer (some ⟨Sb, 0, none⟩)] 118)).alloc (.cells #[.bool false] 4)).alloc (.cells #[.string (B text)] 9)) = W0 := ⟨_, rfl⟩
  rw [hW0]
  have hz : W0.heap.size = w.heap.size + 3 := by rw [← hW0]; simp
  have b0 : Boxed W0 w.heap.size 118 (.pointer (some ⟨Sb, 0, none⟩)) := by rw [← hW0]; exact ((Boxed.new w _ _).alloc _).alloc _
  have b1 : Boxed W0 (w.heap.size + 1) 4 (.bool false) := by rw [← hW0]; have := Boxed.new (w.alloc (.cells #[.pointer (some ⟨Sb, 0, none⟩)] 118)) 4 (.bool false); rw [World.size_alloc] at this; exact this.alloc _
  have b2 : Boxed W0 (w.heap.size + 2) 9 (.string (B text)) := by rw [← hW0]; have := Boxed.new ((w.alloc (.cells #[.pointer (some ⟨Sb, 0, none⟩)] 118)).alloc (.cells #[.bool false] 4)) 9 (.string (B text)); rw [World.size_alloc, World.size_alloc] at this; exact this
  have hB0 : Below w.heap.size w W0 := by rw [← hW0]; exact (((Below.refl _ w).alloc (Nat.le_refl _) _).alloc (by simp) _).alloc (by simp; omega) _
  clear hW0
  have HN := Lib.hid hl
  clear hl
  refine rangeC (n := 3) (gf := 92) (lb := #[.pointer (some ⟨w.heap.size + 2, 0, none⟩)]) rfl (enters_of Tryz.func92 (by kernel_rfl) rfl)
    (flashes1_seq 2 (w.heap.size + 2) (B text) (by simpa using ht) (fun k hk => by rw [bat_B, List.getD_eq_getElem?_getD, List.getElem?_eq_getElem (by simpa using hk)]; exact HV.out _ (List.getElem_mem _))) ?st ?it (fun _ _ _ h k => h.trans k) ?kb (fun _ => rfl)
    (fun pre W => (∃ T', Sheet W Sb base r most (sent ++ pre) T' ∧ Fit T' most (sent ++ pre) r) ∧ KeepU base [Sb] W0 W)
    (fun c pre W => (c = .ret ∧ ∀ t, ¬ Can most (sent ++ pre ++ t) r) ∧ (∃ T', Sheet W Sb base r most (sent ++ pre) T' ∧ Fit T' most (sent ++ pre) r) ∧ KeepU base [Sb, w.heap.size + 1] W0 W ∧ Boxed W (w.heap.size + 1) 4 (.bool false))
    ?i ?ix ?ii ?ixi ?h0 ?a1 ?assign ?body ?done ?stop
  case assign =>
    intro l x W K hK
    gi_wp2
    exact hK
  case st =>
    intro o o'
    refine ⟨((b2.alloc o).alloc o').cell, ?_⟩
    intro v hv
    have hb : Below w.heap.size w ((W0.alloc o).alloc o') := (hB0.alloc hB0.size _).alloc (Nat.le_trans hB0.size (by simp)) _
    exact (hb.cell (p := ⟨_, v, none⟩) hgw).trans (HC.out v hv)
  case it => rintro A X rfl; exact (KeepsOthers.refl _).from _
  case kb =>
    intro W l o o' hl h _ _
    refine SameOn.putObj ?_
    intro b hb; simp at hb; omega
  case i =>
    refine OwnFrom.and (fun pre W W' row hs hg hr => ?_) (fun pre W W' row hs hg hr => hs.own (Nat.le_refl _) hg fun k e => (hr k e).1)
    obtain ⟨T', h1, h2⟩ := hs
    exact ⟨T', h1.own hg fun k e => (hr k e).2, h2⟩
  case ix =>
    intro c
    refine OwnFrom.and (ownFrom_pure _ (fun pre : List UInt8 => c = Code.ret ∧ ∀ t, ¬ Can most (sent ++ pre ++ t) r)) (OwnFrom.and (fun pre W W' row hs hg hr => ?_) (OwnFrom.and (fun pre W W' row hs hg hr => hs.own (Nat.le_refl _) hg fun k e => (hr k e).1) (Own.from (boxed_own _ _ _) _)))
    obtain ⟨T', h1, h2⟩ := hs
    exact ⟨T', h1.own hg fun k e => (hr k e).2, h2⟩
  case ii => rintro pre A X h rfl; exact h
  case ixi => rintro c pre A X h rfl; exact h
  case h0 => exact ⟨⟨T, by rw [List.append_nil]; exact HS.out.keep hB0, by rw [List.append_nil]; exact HF.out⟩, KeepU.refl _ _ _⟩
  case body =>
    rintro l pre x W ⟨⟨T', hS', hF'⟩, hK⟩ hlt
    have hlt' : pre.length < (flashL text).length := by simpa using hlt
    have hn := HN.out
    have hbx : Boxed W w.heap.size 118 (.pointer (some ⟨Sb, 0, none⟩)) := hK.box (fr := (0, 0)) b0 (by decide) (by simp; omega)
    have hb1 : Boxed W (w.heap.size + 1) 4 (.bool false) := hK.box (fr := (0, 0)) b1 (by decide) (by simp; omega)
    have hb2 : Boxed W (w.heap.size + 2) 9 (.string (B text)) := hK.box (fr := (0, 0)) b2 (by decide) (by simp; omega)
    have hle : (sent ++ pre).length < 100 := by rw [List.length_append]; omega
    have HCl := Lib.hid (send_u W Sb base r most (sent ++ pre) T' x hS' hle hm (hK.parts HP1.out (by simpa using HP2.out) ((KeepU.of_below (base := base) (bs := [Sb]) hB0).parts HP1.out (by simpa using HP2.out) HP.out)) HP1.out HP2.out)
    have hcs : ∃ o : Obj, W.heap[Sb]? = some o ∧ o.isCells = true := by obtain ⟨C, sv, hh, _⟩ := hS'.lay; exact ⟨_, hh, rfl⟩
    have HCS := Lib.hid hcs
    have HSend := Lib.hid (hF'.send x); have HPoss := Lib.hid (fun t => hF'.poss (t := t) (c := x))
    have HK := Lib.hid hK
    have c0 := hbx.cell
    obtain ⟨pb, hpb⟩ : ∃ pb, possB T' (sent ++ pre ++ [x]) r most = pb := ⟨_, rfl⟩
    rw [hpb] at HCl HPoss
    have H1 := Lib.hid hb1; have H2 := Lib.hid hb2; have HZ := Lib.hid hz
    clear hcs hF' hS' hK hbx hb1 hb2 hpb hle hn hlt hlt' b0 b1 b2 hz
    cases pb
    · gi_wp2_with (refine ⟨trivial, ?_⟩; gi_at_call 98; refine (CallsIn.inRound l (callsIn_wide.2 HCl.out)).mono ?_; rintro e w' ⟨rfl, hS2, hK2⟩; have hb1' : Boxed w' (w.heap.size + 1) 4 (.bool false) := hK2.box (fr := (0, 0)) H1.out (by decide) (by simp; omega); have e1 := hb1'.cell; have e2 := hb1'.frozen)
      refine ⟨((hK2.keeps (by simpa using HCS.out)).trans (KeepsOthers.setCell _ _ _)).from _, ⟨rfl, fun t ht => ?_⟩, ⟨nextT T' (sent ++ pre ++ [x]) r most, ?_, ?_⟩, ?_, hb1'.set _⟩
      · have := HPoss.out t (by simpa using ht); cases this
      · rw [← List.append_assoc]; exact hS2.other (fr := (0, 0)) hb1' (by decide) (by omega) _ _
      · rw [← List.append_assoc]; exact HSend.out
      · exact ((HK.out.trans hK2).mono (by simp)).setCell (b := w.heap.size + 1) (by simp) _ _
    · gi_wp2_with (refine ⟨trivial, ?_⟩; gi_at_call 98; refine (CallsIn.inRound l (callsIn_wide.2 HCl.out)).mono ?_; rintro e w' ⟨rfl, hS2, hK2⟩)
      refine ⟨(hK2.keeps (by simpa using HCS.out)).from _, fun b hb => ?_, ⟨nextT T' (sent ++ pre ++ [x]) r most, ?_, ?_⟩, HK.out.trans hK2⟩
      · simp at hb
        rcases hb with rfl | rfl
        · exact (hK2.box (fr := (0, 0)) H2.out (by decide) (by simp; omega)).trans H2.out.symm
        · exact hK2.old (by have := HK.out.size; have := hB0.size; omega) (by simpa using HG2.out) HG.out
      · rw [← List.append_assoc]; exact hS2
      · rw [← List.append_assoc]; exact HSend.out
  case done =>
    rintro D ys W hD rfl ⟨⟨T', hS', hF'⟩, hK⟩ hKd
    have hb1 : Boxed W (w.heap.size + 1) 4 (.bool false) := hK.box (fr := (0, 0)) b1 (by decide) (by simp; omega)
    have e1 := hb1.cell; have e2 := hb1.frozen
    have HS' := Lib.hid hS'; have HF' := Lib.hid hF'; have HK := Lib.hid hK
    clear hS' hF' hK
    gi_wp2
    have hK1 := (KeepsOthers.setCell W ⟨w.heap.size + 1, 0, none⟩ (.bool true)).same D _ hKd rfl
    have b1' := hb1.set (.bool true)
    have r1 := (Boxed.kept b1' (grownBy_putObj' _ D (.deferred none)) (by intro e; cases e; omega)).cell
    refine ⟨by simp, .inl ⟨_, _, rfl, run_takeDeferred hK1, ?_⟩⟩
    refine ⟨.bool true, ?_, true, flashL text, T', rfl, ?_, HF'.out, ?_, fun _ => rfl, fun h => by cases h⟩
    · simp only [results, Tryz.results72]
      go_simp
    · exact (HS'.out.other (fr := (0, 0)) hb1 (by decide) (by omega) _ _).own (grownBy_putObj' _ D _) (fun k e => by cases e; exact ⟨_, hK1, rfl⟩)
    · refine KeepU.fresh (cs := [Sb, w.heap.size + 1]) hB0 (KeepU.own (B := W0.heap.size) (((HK.out).mono (by simp)).setCell (b := w.heap.size + 1) (by simp) _ _) (Nat.le_refl _) (grownBy_putObj' _ D _) (fun k e => by cases e; exact hD)) ?_
      intro c hc; simp at hc; rcases hc with rfl | rfl
      · exact .inl (by simp)
      · exact .inr (by omega)
  case stop =>
    rintro D c pre W hD hSp ⟨⟨rfl, hbad⟩, ⟨T', hS', hF'⟩, hK, hb1⟩ hKd
    have HS' := Lib.hid hS'; have HF' := Lib.hid hF'; have HK := Lib.hid hK; have HBad := Lib.hid hbad; have HSp := Lib.hid hSp
    clear hS' hF' hK hbad hSp
    gi_wp2
    have r1 := (Boxed.kept hb1 (grownBy_putObj' _ D (.deferred none)) (by intro e; cases e; omega)).cell
    refine ⟨by simp, .inl ⟨_, _, rfl, run_takeDeferred hKd, ?_⟩⟩
    refine ⟨.bool false, ?_, false, pre, T', rfl, ?_, HF'.out, ?_, (fun h => by cases h), fun _ t ht => ?_⟩
    · simp only [results, Tryz.results72]
      go_simp
    · exact HS'.out.own (grownBy_putObj' _ D _) (fun k e => by cases e; exact ⟨_, hKd, rfl⟩)
    · refine KeepU.fresh (cs := [Sb, w.heap.size + 1]) hB0 (KeepU.own (B := W0.heap.size) HK.out (Nat.le_refl _) (grownBy_putObj' _ D _) (fun k e => by cases e; exact hD)) ?_
      intro c hc; simp at hc; rcases hc with rfl | rfl
      · exact .inl (by simp)
      · exact .inr (by omega)
    · obtain ⟨t', ht'⟩ := HSp.out
      exact HBad.out (t' ++ t) (by
        have e : flashL text = pre ++ t' := by simpa using ht'.symm
        rw [e] at ht; simpa using ht)
end Go.Proofs.YtjbdmlpadoiicaaGreatDoor

/-! cut and finish of package beam. -/
namespace Go.Proofs.YtjbdmlpadoiicaaGreatDoor
open Go.RowKit Go.Shelf

theorem take_of_cells {cur : List Value} {a b : List UInt8} (h : cur.take ((a ++ b).length * 1) = (a ++ b).map encU) : cur.take (a.length * 1) = a.map encU := by
  have := congrArg (List.take a.length) h
  rw [List.take_take, List.length_append] at this
  rw [Nat.mul_one]
  rw [show min a.length ((a.length + b.length) * 1) = a.length by omega] at this
  rw [this, List.map_append, List.take_append_of_le_length (by simp), List.take_of_length_le (by simp)]
theorem Sheet.cut {w : World} {Sb base : Nat} {r : List UInt8} {most : Int} {sent t : List UInt8} {T : Nat → Nat → Int} (h : Sheet w Sb base r most (sent ++ t) T) :
    ∃ sv a n c, w.cell? ⟨Sb, 2, none⟩ = some sv ∧ w.frozen? ⟨Sb, 2, none⟩ = false ∧ (∀ W, (Instr.slice 105 sv none (some (.int .i64 (sent.length : Int))) none).run Tryz.prog W = .ok (.slice a n c) W) ∧ Sheet (w.setCell ⟨Sb, 2, none⟩ (.slice a n c)) Sb base r most sent T := by
  obtain ⟨C, sv, hh, hC, h0, h1, h2, hrow, hT⟩ := h.lay
  have hl := h.len
  rw [List.length_append] at hl
  have fin : ∀ v, w.ownsRow base 5 1 v sent.length (sent.map encU) → Sheet (w.setCell ⟨Sb, 2, none⟩ v) Sb base r most sent T := fun v hv => by
    refine ⟨⟨_, v, heap_setCell_same hh _ _, by simpa using hC, ?_, ?_, ?_, ownsRow_setCell_below hv h.below _, fun a b ha hb => ?_⟩, h.below, by simpa using h.small, h.fits, by omega, h.lenr⟩
    · rw [Array.getElem?_setIfInBounds_ne (by omega)]; exact h0
    · rw [Array.getElem?_setIfInBounds_ne (by omega)]; exact h1
    · rw [Array.getElem?_setIfInBounds_self_of_lt (by omega)]
    · rw [Array.getElem?_setIfInBounds_ne (by omega)]; exact hT a b ha hb
  rcases hrow.2 with ⟨rfl, hn⟩ | ⟨g, cap, cur, rfl, hg, hgb, hc, hm, hs, ht⟩
  · have e : sent = [] := List.length_eq_zero_iff.1 (by rw [List.length_append] at hn; omega)
    subst e
    refine ⟨_, none, 0, 0, by rw [cell_of_heap hh]; exact h2, free_of_heap hh _, fun W => ?_, fin _ (World.ownsRow_nil _ _ _ _)⟩
    kernel_rfl
  · rw [List.length_append] at hc
    refine ⟨_, some ⟨g, 0, none⟩, sent.length, cap, by rw [cell_of_heap hh]; exact h2, free_of_heap hh _, fun W => ?_, fin _ ⟨by simp, .inr ⟨g, cap, cur, rfl, hg, hgb, by omega, hm, hs, take_of_cells ht⟩⟩⟩
    have h2 : (0 : Int) ≤ (sent.length : Int) ∧ (sent.length : Int) ≤ (cap : Int) := by omega
    simp [Instr.slice, Instr.sliceBounds, Instr.sliceBound, asIntOf, run_underlying Tryz.underlying105, h2, go_sem]
    intro h; omega

theorem scut_any (w : World) (Sb base : Nat) (r : List UInt8) (most : Int) (sent t : List UInt8) (T : Nat → Nat → Int) (n : Int) (hS : Sheet w Sb base r most (sent ++ t) T) (hF : Fit T most (sent ++ t) r) (hn : n = sent.length) :
    Calls Tryz.prog 73 #[.pointer (some ⟨Sb, 0, none⟩), .int .i64 n] w fun e w' => e = .returned (.tuple #[]) ∧ Sheet w' Sb base r most sent T ∧ Fit T most sent r ∧ KeepU base [Sb] w w' := by
  subst hn
  obtain ⟨sv, va, vn, vc, c2, f2, hrun, hS'⟩ := hS.cut
  have hl := hS.len
  rw [List.length_append] at hl
  have HS := Lib.hid hS'; have HF := Lib.hid hF
  clear hS hF hS'
  go_enter Tryz.func73, Tryz.ntmps73
  go_wp2_with fail
  go_end0
  exact ⟨rfl, HS.out, HF.out.cut, (KeepU.refl _ _ _).setCell (b := Sb) (by simp) _ _⟩

set_option maxRecDepth 100000 in
theorem finish_any (w : World) (Sb base : Nat) (r : List UInt8) (most : Int) (sent word : List UInt8) (T : Nat → Nat → Int) (hw : wordB word = true) (hs : sent = flashL (aheadL word ++ word)) (hS : Sheet w Sb base r most sent T) (hF : Fit T most sent r) (hm : 0 ≤ most ∧ most ≤ 100)
    (hC : Codes w) (hg : 0 < base) (hg2 : 0 ≠ Sb) (hP : Parts w) (hp1 : 3 < base) (hp2 : 3 ≠ Sb) :
    Calls Tryz.prog 71 #[.pointer (some ⟨Sb, 0, none⟩), .string (B word)] w fun e w' => ∃ b n sent' T', e = .returned (.tuple #[.int .i64 n, .bool b]) ∧ Sheet w' Sb base r most (sent ++ sent') T' ∧ Fit T' most (sent ++ sent') r ∧ KeepU base [Sb] w w' ∧
      (b = true → Can most (signalL word) r ∧ n = eT (signalL word) r 0 0) ∧ (b = false → ¬ Can most (signalL word) r) := by
  have hwl := word_parts hw
  have hfl := flashL_length (aheadL word ++ word)
  have la : (aheadL word).length = 1 := rfl
  have hbl : (behindL word).length = 2 := rfl
  have hfb := flashL_length (behindL word)
  have hsp : signalL word = sent ++ (flashL (behindL word) ++ [47]) := by
    rw [hs]; unfold signalL textL flashL; simp [List.flatMap_append]
  rw [← hs, List.length_append] at hfl
  have HSp := Lib.hid (spell_any w Sb base r most sent (behindL word) T hS hF (by omega) (by omega) (fun c hc => valI_text hw c (by simp [textL, hc])) hm hC hg hg2 hP hp1 hp2)
  have EV : Hid (checksV word = .tuple #[.string (B (aheadL word)), .string (B (behindL word)), .int .i64 0]) := Lib.hid (by simp [checksV, hw])
  have HE := Lib.hid hsp
  have HL : Hid (sent.length + (flashL (behindL word)).length < 100) := Lib.hid (by omega)
  have HP := Lib.hid hP; have HP1 := Lib.hid hp1; have HP2 := Lib.hid hp2; have hwn : word.length ≤ 10 := hwl.2.1
  have HCk := Lib.hid (checks_any (B word) w (by rw [size_B]; unfold maxLen; omega))
  rw [L_B, EV.out] at HCk
  clear hw hs hS hF hC hg hg2 hP hp1 hp2 hwl hfl la hbl hfb hsp
  go_enter Tryz.func71, Tryz.ntmps71
  go_wp2_with fail
  refine HCk.out.mono ?_
  rintro e w1 ⟨rfl, rfl⟩
  go_wp2_with fail
  refine HSp.out.mono ?_
  rintro e w1 ⟨b, sent', T', rfl, hS1, hF1, hK1, ht, hf⟩
  cases b
  · have HS1 := Lib.hid hS1; have HF1 := Lib.hid hF1; have HK1 := Lib.hid hK1; have Hf := Lib.hid (hf rfl)
    clear hS1 hF1 hK1 ht hf
    go_wp2_with fail
    go_ret2
    exact ⟨false, 0, sent', T', ret_val rfl, HS1.out, HF1.out, HK1.out, (fun h => by cases h), fun _ hc => Hf.out [47] (by rw [HE.out] at hc; exact hc)⟩
  · obtain rfl := ht rfl
    have HCl := Lib.hid (send_u w1 Sb base r most (sent ++ flashL (behindL word)) T' 47 hS1 (by rw [List.length_append]; exact HL.out) hm (hK1.parts HP1.out (by simpa using HP2.out) HP.out) HP1.out HP2.out)
    have HSend := Lib.hid (hF1.send 47); have HPoss := Lib.hid (hF1.poss (t := []) (c := 47))
    have HF1 := Lib.hid hF1; have HK1 := Lib.hid hK1
    obtain ⟨pb, hpb⟩ : ∃ pb, possB T' (sent ++ flashL (behindL word) ++ [47]) r most = pb := ⟨_, rfl⟩
    rw [hpb] at HCl HPoss
    clear hS1 hF1 hK1 ht hf hpb
    cases pb
    · go_wp2_with fail
      refine HCl.out.mono ?_
      rintro e w2 ⟨rfl, hS2, hK2⟩
      have HS2 := Lib.hid hS2; have HK2 := Lib.hid hK2
      clear hS2 hK2
      go_wp2_with fail
      go_ret2
      refine ⟨false, 0, flashL (behindL word) ++ [47], nextT T' (sent ++ flashL (behindL word) ++ [47]) r most, ret_val rfl, ?_, ?_, HK1.out.trans HK2.out, (fun h => by cases h), fun _ hc => ?_⟩
      · rw [← List.append_assoc]; exact HS2.out
      · rw [← List.append_assoc]; exact HSend.out
      · have := HPoss.out (by rw [HE.out] at hc; simpa using hc)
        cases this
    · go_wp2_with fail
      refine HCl.out.mono ?_
      rintro e w2 ⟨rfl, hS2, hK2⟩
      have HS2 := Lib.hid hS2; have HK2 := Lib.hid hK2
      have HFw := Lib.hid (sfewest_any w2 Sb base r most _ _ hS2 hm)
      clear hS2 hK2
      have e1 : nextT T' (sent ++ flashL (behindL word) ++ [47]) r most (sent ++ flashL (behindL word) ++ [47]).length r.length = mT most (signalL word) r (signalL word).length r.length := by
        rw [HSend.out.low _ _ (Nat.le_refl _), HE.out, List.append_assoc]
      have hcan := mT_can (m := most) (by omega) (signalL word) r
      have heT := @mT_eT most (by omega) (signalL word) r
      have HR : Hid (∃ b n, fewV (nextT T' (sent ++ flashL (behindL word) ++ [47]) r most) (sent ++ flashL (behindL word) ++ [47]).length r.length most = .tuple #[.int .i64 n, .bool b] ∧ (b = true → Can most (signalL word) r ∧ n = eT (signalL word) r 0 0) ∧ (b = false → ¬ Can most (signalL word) r)) := Lib.hid (by
        unfold fewV
        rw [e1]
        by_cases c : mT most (signalL word) r (signalL word).length r.length ≤ most
        · rw [if_pos c]; exact ⟨true, _, rfl, fun _ => ⟨hcan.1 c, heT (hcan.1 c)⟩, fun h => by cases h⟩
        · rw [if_neg c]; exact ⟨false, 0, rfl, (fun h => by cases h), fun _ h => c (hcan.2 h)⟩)
      clear e1 hcan heT
      obtain ⟨b, n, hfv, h1, h2⟩ := HR.out
      rw [hfv] at HFw
      have H12 := Lib.hid (And.intro h1 h2)
      clear hfv h1 h2 HR
      go_wp2_with fail
      refine HFw.out.mono ?_
      rintro e w3 ⟨rfl, hB3⟩
      have HB3 := Lib.hid hB3
      clear hB3
      go_wp2_with fail
      go_ret2
      refine ⟨b, n, flashL (behindL word) ++ [47], nextT T' (sent ++ flashL (behindL word) ++ [47]) r most, ret_val rfl, ?_, ?_, (HK1.out.trans HK2.out).trans (KeepU.of_below HB3.out), H12.out.1, H12.out.2⟩
      · rw [← List.append_assoc]; exact HS2.out.keep HB3.out
      · rw [← List.append_assoc]; exact HSend.out
end Go.Proofs.YtjbdmlpadoiicaaGreatDoor
