/- checkStart, checkWay, canLeave of package relay. -/
import Derived.Test.YtiboolbndfhomaaNA4
set_option linter.unusedVariables false
set_option linter.unusedSimpArgs false
namespace Go.Proofs.Ytiboolbndfhomaa
open Go.RowKit

/-- What a slice of links reads as, with lengths that memory can hold. -/
structure NRow (w : World) (o : Value) (ls : List Lk) : Prop where
  row : LRow w o ls
  op : ∀ k ∈ ls, k.op.length ≤ 9223372036854775807
  len : ls.length ≤ 9223372036854775807
theorem NRow.keep {w w' : World} {o : Value} {ls : List Lk} (h : NRow w o ls) (hb : Below w.heap.size w w') : NRow w' o ls := ⟨h.row.keep hb, h.op, h.len⟩
def startE (st : Int) (ls : List Lk) (a t : Int) : Int := if netE st ls = 0 then (if stB st a = true ∧ 0 ≤ t ∧ t ≤ 1048576 then 0 else 1) else netE st ls
def wayE (st : Int) (ls : List Lk) (a b t : Int) : Int := if startE st ls a t = 0 then (if stB st b = true then 0 else 1) else startE st ls a t
theorem net_cells (w : World) (st : Int) (o : Value) {W : World} (hb : Below (w.alloc (.cells #[.int .i64 st, o] 24)).heap.size (w.alloc (.cells #[.int .i64 st, o] 24)) W) :
    W.cell? ⟨w.heap.size, 0, none⟩ = some (.int .i64 st) ∧ W.cell? ⟨w.heap.size, 1, none⟩ = some o ∧ w.heap.size < W.heap.size ∧ Below w.heap.size w W := by
  have hlt : w.heap.size < (w.alloc (.cells #[.int .i64 st, o] 24)).heap.size := by simp
  refine ⟨?_, ?_, Nat.lt_of_lt_of_le hlt hb.size, ((Below.refl _ w).alloc (Nat.le_refl _) _).trans (hb.mono (Nat.le_of_lt hlt))⟩
  · rw [World.cell?_of_block (w := w.alloc _) (hb.block w.heap.size hlt), World.cell?_alloc_new]; rfl
  · rw [World.cell?_of_block (w := w.alloc _) (hb.block w.heap.size hlt), World.cell?_alloc_new]; rfl

set_option maxRecDepth 100000 in
set_option maxHeartbeats 2000000 in
theorem checkStart_any (st : Int) (o : Value) (ls : List Lk) (a t : Int) (w : World) (hv : NRow w o ls) :
    Calls Try.prog 39 #[ntV st o, .int .i64 a, .int .i64 t] w fun e w' => e = .returned (.int .i64 (startE st ls a t)) ∧ Below w.heap.size w w' := by
  have HC := Lib.hid (fun w' (h : Below w.heap.size w w') => Check_any st o ls w' (hv.keep h).row hv.op hv.len)
  obtain ⟨oa, oc, rfl, _⟩ := hv.row.form
  have HI := Lib.hid (fun w' => isStation_any st a (.slice oa ls.length oc) w')
  have HA := Lib.hid (fun W => net_cells w st (.slice oa ls.length oc) (W := W))
  have HB0 := Lib.hid ((Below.refl _ w).alloc (Nat.le_refl w.heap.size) (.cells #[.int .i64 st, .slice oa ls.length oc] 24))
  clear hv
  unfold ntV at HC HI ⊢
  by_cases hE : netE st ls = 0
  case neg =>
    have HV : Hid (startE st ls a t = netE st ls) := Lib.hid (by unfold startE; rw [if_neg hE])
    have hz : (netE st ls != 0) = true := by simpa using hE
    obtain ⟨q, hq⟩ : ∃ q, netE st ls = q := ⟨_, rfl⟩
    rw [hq] at HC HV hz
    clear hE hq
    go_enter Try.func39, Try.ntmps39
    go_wp2_with fail
    refine (HC.out _ HB0.out).mono ?_
    rintro e w1 ⟨rfl, hb⟩
    have HB1 := Lib.hid (HB0.out.trans (hb.mono HB0.out.size))
    clear hb
    go_wp2_with fail
    go_ret
    exact ⟨ret_int' HV.out.symm, HB1.out⟩
  have HV : Hid (startE st ls a t = if stB st a = true ∧ 0 ≤ t ∧ t ≤ 1048576 then 0 else 1) := Lib.hid (by unfold startE; rw [if_pos hE])
  rw [hE] at HC
  clear hE
  cases h1 : stB st a
  · rw [h1] at HI
    have HN : Hid (startE st ls a t = 1) := Lib.hid (by rw [HV.out, h1, if_neg (fun h => by cases h.1)])
    clear h1
    go_enter Try.func39, Try.ntmps39
    go_wp2_with fail
    refine (HC.out _ HB0.out).mono ?_
    rintro e w1 ⟨rfl, hb⟩
    obtain ⟨c0, c1, hlt, hb1⟩ := HA.out w1 hb
    have HB1 := Lib.hid hb1
    clear hb hb1
    go_wp2_with fail
    refine (HI.out _).mono ?_
    rintro e w2 ⟨rfl, hb⟩
    have HB2 := Lib.hid (HB1.out.trans (hb.mono HB1.out.size))
    clear hb
    go_wp2_with fail
    go_ret
    exact ⟨ret_int' HN.out.symm, HB2.out⟩
  rw [h1] at HI
  by_cases h2 : t < 0
  · have HN : Hid (startE st ls a t = 1) := Lib.hid (by rw [HV.out, if_neg (fun h => by omega)])
    clear h1
    go_enter Try.func39, Try.ntmps39
    go_wp2_with fail
    refine (HC.out _ HB0.out).mono ?_
    rintro e w1 ⟨rfl, hb⟩
    obtain ⟨c0, c1, hlt, hb1⟩ := HA.out w1 hb
    have HB1 := Lib.hid hb1
    clear hb hb1
    go_wp2_with fail
    refine (HI.out _).mono ?_
    rintro e w2 ⟨rfl, hb⟩
    have HB2 := Lib.hid (HB1.out.trans (hb.mono HB1.out.size))
    clear hb
    go_wp2_with fail
    go_ret
    exact ⟨ret_int' HN.out.symm, HB2.out⟩
  have g2 : decide (t < 0) = false := decide_eq_false h2
  by_cases h3 : 1048576 < t
  · have HN : Hid (startE st ls a t = 1) := Lib.hid (by rw [HV.out, if_neg (fun h => by omega)])
    clear h1 h2
    go_enter Try.func39, Try.ntmps39
    go_wp2_with fail
    refine (HC.out _ HB0.out).mono ?_
    rintro e w1 ⟨rfl, hb⟩
    obtain ⟨c0, c1, hlt, hb1⟩ := HA.out w1 hb
    have HB1 := Lib.hid hb1
    clear hb hb1
    go_wp2_with fail
    refine (HI.out _).mono ?_
    rintro e w2 ⟨rfl, hb⟩
    have HB2 := Lib.hid (HB1.out.trans (hb.mono HB1.out.size))
    clear hb
    go_wp2_with fail
    go_ret
    exact ⟨ret_int' HN.out.symm, HB2.out⟩
  have g3 : decide (1048576 < t) = false := decide_eq_false h3
  have HN : Hid (startE st ls a t = 0) := Lib.hid (by rw [HV.out, if_pos ⟨h1, by omega, by omega⟩])
  clear h1 h2 h3
  go_enter Try.func39, Try.ntmps39
  go_wp2_with fail
  refine (HC.out _ HB0.out).mono ?_
  rintro e w1 ⟨rfl, hb⟩
  obtain ⟨c0, c1, hlt, hb1⟩ := HA.out w1 hb
  have HB1 := Lib.hid hb1
  clear hb hb1
  go_wp2_with fail
  refine (HI.out _).mono ?_
  rintro e w2 ⟨rfl, hb⟩
  have HB2 := Lib.hid (HB1.out.trans (hb.mono HB1.out.size))
  clear hb
  go_wp2_with fail
  go_ret
  exact ⟨ret_int' HN.out.symm, HB2.out⟩

set_option maxRecDepth 100000 in
set_option maxHeartbeats 2000000 in
theorem checkWay_any (st : Int) (o : Value) (ls : List Lk) (a b t : Int) (w : World) (hv : NRow w o ls) :
    Calls Try.prog 43 #[ntV st o, .int .i64 a, .int .i64 b, .int .i64 t] w fun e w' => e = .returned (.int .i64 (wayE st ls a b t)) ∧ Below w.heap.size w w' := by
  have HC := Lib.hid (fun w' (h : Below w.heap.size w w') => checkStart_any st o ls a t w' (hv.keep h))
  obtain ⟨oa, oc, rfl, _⟩ := hv.row.form
  have HI := Lib.hid (fun w' => isStation_any st b (.slice oa ls.length oc) w')
  have HA := Lib.hid (fun W => net_cells w st (.slice oa ls.length oc) (W := W))
  have HB0 := Lib.hid ((Below.refl _ w).alloc (Nat.le_refl w.heap.size) (.cells #[.int .i64 st, .slice oa ls.length oc] 24))
  clear hv
  unfold ntV at HC HI ⊢
  by_cases hE : startE st ls a t = 0
  case neg =>
    have HV : Hid (wayE st ls a b t = startE st ls a t) := Lib.hid (by unfold wayE; rw [if_neg hE])
    have hz : (startE st ls a t != 0) = true := by simpa using hE
    obtain ⟨q, hq⟩ : ∃ q, startE st ls a t = q := ⟨_, rfl⟩
    rw [hq] at HC HV hz
    clear hE hq
    go_enter Try.func43, Try.ntmps43
    go_wp2_with fail
    refine (HC.out _ HB0.out).mono ?_
    rintro e w1 ⟨rfl, hb⟩
    have HB1 := Lib.hid (HB0.out.trans (hb.mono HB0.out.size))
    clear hb
    go_wp2_with fail
    go_ret
    exact ⟨ret_int' HV.out.symm, HB1.out⟩
  have HV : Hid (wayE st ls a b t = if stB st b = true then 0 else 1) := Lib.hid (by unfold wayE; rw [if_pos hE])
  rw [hE] at HC
  clear hE
  cases h1 : stB st b
  all_goals
    rw [h1] at HI HV
    clear h1
    go_enter Try.func43, Try.ntmps43
    go_wp2_with fail
    refine (HC.out _ HB0.out).mono ?_
    rintro e w1 ⟨rfl, hb⟩
    obtain ⟨c0, c1, hlt, hb1⟩ := HA.out w1 hb
    have HB1 := Lib.hid hb1
    clear hb hb1
    go_wp2_with fail
    refine (HI.out _).mono ?_
    rintro e w2 ⟨rfl, hb⟩
    have HB2 := Lib.hid (HB1.out.trans (hb.mono HB1.out.size))
    clear hb
    go_wp2_with fail
    go_ret
    exact ⟨ret_int' HV.out.symm, HB2.out⟩

def canB (k : Lk) (t : Int) : Bool := decide (leaveO k t = some t)
set_option maxRecDepth 100000 in
theorem canLeave_any (k : Lk) (t : Int) (o : Value) (w : World) (hs : SpRow w o k.op) (hl : k.op.length ≤ 9223372036854775807) :
    Calls Try.prog 46 #[lkV k o, .int .i64 t] w fun e w' => e = .returned (.bool (canB k t)) ∧ Below w.heap.size w w' := by
  have HC := Lib.hid (fun w' (h : Below w.heap.size w w') => Leave_any k t o w' (hs.keep h) hl)
  obtain ⟨oa, oc, rfl, _⟩ := hs.form
  clear hs
  have HV : Hid (canB k t = decide (leaveO k t = some t)) := Lib.hid rfl
  obtain ⟨x, hx⟩ : ∃ x, leaveO k t = x := ⟨_, rfl⟩
  rw [hx] at HC HV
  clear hx
  obtain ⟨fr, to, dl, op⟩ := k
  unfold lkV at HC ⊢
  simp only at hl HC ⊢
  have HB0 := Lib.hid ((Below.refl _ w).alloc (Nat.le_refl w.heap.size) (.cells #[.int .i64 fr, .int .i64 to, .int .i64 dl, .slice oa op.length oc] 27))
  cases x with
  | none =>
    have HN : Hid (canB ⟨fr, to, dl, op⟩ t = false) := Lib.hid (by rw [HV.out]; rfl)
    unfold optV at HC
    go_enter Try.func46, Try.ntmps46
    go_wp2_with fail
    refine (HC.out _ HB0.out).mono ?_
    rintro e w1 ⟨rfl, hb⟩
    have HB1 := Lib.hid (HB0.out.trans (hb.mono HB0.out.size))
    clear hb
    go_wp2_with fail
    go_ret
    exact ⟨ret_bool' HN.out.symm, HB1.out⟩
  | some d =>
    have HN : Hid (canB ⟨fr, to, dl, op⟩ t = (d == t)) := Lib.hid (by rw [HV.out]; by_cases h : d = t <;> simp [h])
    unfold optV at HC
    go_enter Try.func46, Try.ntmps46
    go_wp2_with fail
    refine (HC.out _ HB0.out).mono ?_
    rintro e w1 ⟨rfl, hb⟩
    have HB1 := Lib.hid (HB0.out.trans (hb.mono HB0.out.size))
    clear hb
    go_wp2_with fail
    go_ret
    exact ⟨ret_bool' HN.out.symm, HB1.out⟩
end Go.Proofs.Ytiboolbndfhomaa
