/- The reference of layer 2: Arrives, leaves. -/
import Derived.Test.YtiboolbndfhomaaNE2
import Derived.Test.YtiboolbndfhomaaNA7
set_option linter.unusedVariables false
set_option linter.unusedSimpArgs false
namespace Go.Proofs.Ytiboolbndfhomaa
open Go.RowKit

/-- What the reference's Arrives returns. -/
def ArrOut (st : Int) (ls : List Lk) (a b t : Int) (w : World) (e : Ending) (w' : World) : Prop :=
  ∃ x q : Int, e = .returned (.tuple #[.int .i64 x, .int .i64 q]) ∧ Below w.heap.size w w' ∧ (wayE st ls a b t ≠ 0 → x = 0 ∧ q = wayE st ls a b t) ∧
    (wayE st ls a b t = 0 → ∃ at' by', Inv st.toNat ls a.toNat t at' by' ∧ Shut ls at' ∧ ((at0 at' b.toNat < 0 ∧ x = 0 ∧ q = 5) ∨ (0 ≤ at0 at' b.toNat ∧ x = at0 at' b.toNat ∧ q = 0)))
set_option maxRecDepth 100000 in
set_option maxHeartbeats 4000000 in
theorem rArrives_any (st : Int) (o : Value) (ls : List Lk) (a b t : Int) (w : World) (hv : NRow w o ls) (hst : -9223372036854775808 ≤ st ∧ st ≤ 9223372036854775807) :
    Calls Try.prog 24 #[ntV st o, .int .i64 a, .int .i64 b, .int .i64 t] w fun e w' => ArrOut st ls a b t w e w' := by
  have HC := Lib.hid (fun w' (h : Below w.heap.size w w') => rasked_any st o ls a t w' (hv.keep h) hst)
  have HR := Lib.hid (fun w' (h : Below w.heap.size w w') => rEarliest_any st o ls a t w' (hv.keep h) hst)
  obtain ⟨oa, oc, rfl, hlc⟩ := hv.row.form
  have HA := Lib.hid (fun W => net_cells w st (.slice oa ls.length oc) (W := W))
  have HB0 := Lib.hid ((Below.refl _ w).alloc (Nat.le_refl w.heap.size) (.cells #[.int .i64 st, .slice oa ls.length oc] 24))
  unfold ntV at HC HR ⊢
  clear hv hlc
  by_cases hE : startE st ls a t = 0
  case neg =>
    have HV : Hid (wayE st ls a b t = startE st ls a t) := Lib.hid (by unfold wayE; rw [if_neg hE])
    have HE := Lib.hid hE
    have hz : (startE st ls a t != 0) = true := by simpa using hE
    obtain ⟨q, hq⟩ : ∃ q, startE st ls a t = q := ⟨_, rfl⟩
    have HQ := Lib.hid hq
    rw [hq] at HC hz
    clear hE hq
    go_enter Try.func24, Try.ntmps24
    go_wp2_with fail
    refine (HC.out _ HB0.out).mono ?_
    rintro e w1 ⟨rfl, hb⟩
    have HB1 := Lib.hid (HB0.out.trans (hb.mono HB0.out.size))
    clear hb
    go_wp2_with fail
    go_ret2
    exact ⟨0, q, rfl, HB1.out, fun _ => ⟨rfl, by rw [HV.out, HQ.out]⟩, fun h => absurd (HV.out.symm.trans h) HE.out⟩
  obtain ⟨hne, a0, a1, t0, t1⟩ := startE_ok hE
  obtain ⟨s1, s10, l40, hks⟩ := netE_ok hne
  have HWI := Lib.hid (fun w' => rwithin_any b 0 (st - 1) w')
  simp only [inB_st] at HWI
  have hws : IntKind.i64.wrap (st - 1) = st - 1 := IntWalk.i64_in _ (by omega)
  have HV : Hid (wayE st ls a b t = if stB st b = true then 0 else 1) := Lib.hid (by unfold wayE; rw [if_pos hE])
  have HE := Lib.hid hE
  rw [hE] at HC
  clear hE hne hks
  cases hbs : stB st b
  · have HN : Hid (wayE st ls a b t = 1) := Lib.hid (by rw [HV.out, hbs]; rfl)
    rw [hbs] at HWI
    clear hbs
    go_enter Try.func24, Try.ntmps24
    go_wp2_with fail
    refine (HC.out _ HB0.out).mono ?_
    rintro e w1 ⟨rfl, hb⟩
    obtain ⟨n0, n1, hlt, hw1⟩ := HA.out w1 hb
    have HB1 := Lib.hid hw1
    clear hb hw1
    go_wp2_with fail
    refine (HWI.out _).mono ?_
    rintro e w2 ⟨rfl, rfl⟩
    go_wp2_with fail
    go_ret2
    exact ⟨0, 1, rfl, HB1.out, fun _ => ⟨rfl, HN.out.symm⟩, fun h => absurd (HN.out.symm.trans h) (by decide)⟩
  have HN : Hid (wayE st ls a b t = 0) := Lib.hid (by rw [HV.out, hbs]; rfl)
  have hb2 : 0 ≤ b ∧ b < st := by
    unfold stB at hbs
    simpa using hbs
  obtain ⟨hb0, hb1⟩ := hb2
  obtain ⟨g, rfl⟩ : ∃ m : Nat, b = m := ⟨b.toNat, by omega⟩
  obtain ⟨s, rfl⟩ : ∃ s : Nat, st = s := ⟨st.toNat, by omega⟩
  have hgs : g < s := by omega
  rw [hbs] at HWI
  clear hbs a0 a1 t0 t1 s1 s10 l40
  go_enter Try.func24, Try.ntmps24
  go_wp2_with fail
  refine (HC.out _ HB0.out).mono ?_
  rintro e w1 ⟨rfl, hb⟩
  have HD1 := Lib.hid hb
  obtain ⟨n0, n1, hlt, hw1⟩ := HA.out w1 hb
  have HB1 := Lib.hid hw1
  clear hb hw1
  go_wp2_with fail
  refine (HWI.out _).mono ?_
  rintro e w2 ⟨rfl, rfl⟩
  go_wp2_with fail
  refine (HR.out _ HB1.out).mono ?_
  rintro e w3 ⟨v, rfl, hb, _, h⟩
  obtain ⟨at', by', h1, h2, h3⟩ := h HE.out
  rw [HE.out]
  have HI := Lib.hid h2
  have HS := Lib.hid h3
  obtain ⟨a4, p4, rfl, hcells⟩ := h1.form
  have hla : at'.length = s := by simpa using h2.la
  rw [hla] at hcells ⊢
  obtain ⟨bk, off, rfl, hbk, cg⟩ := hcells g hgs
  have cg' : w3.cell? ⟨bk, off + g, none⟩ = some (.int .i64 (at0 at' g)) := cg
  have hbn : bk ≠ w3.heap.size := by omega
  have HB3 := Lib.hid (HB1.out.trans (hb.mono HB1.out.size))
  have HB4 : Hid (∀ o, Below w.heap.size w (w3.alloc o)) := Lib.hid (fun o => HB3.out.alloc HB3.out.size o)
  obtain ⟨y, hy⟩ : ∃ y, at0 at' g = y := ⟨_, rfl⟩
  have HY := Lib.hid hy
  rw [hy] at cg'
  clear h hb h1 h2 h3 hcells hla cg hy n0 n1 hlt
  by_cases hy0 : y < 0
  · have HY0 := Lib.hid hy0
    go_wp2_with fail
    go_ret2
    exact ⟨0, 5, rfl, HB4.out _, fun h => absurd HN.out h, fun _ => ⟨at', by', by simpa using HI.out, HS.out, .inl ⟨by simpa using (by rw [HY.out]; exact HY0.out : at0 at' g < 0), rfl, rfl⟩⟩⟩
  · have g1 : decide (y < 0) = false := decide_eq_false hy0
    have HY0 : Hid (0 ≤ y) := Lib.hid (by omega)
    clear hy0
    go_wp2_with fail
    go_ret2
    exact ⟨y, 0, rfl, HB4.out _, fun h => absurd HN.out h, fun _ => ⟨at', by', by simpa using HI.out, HS.out, .inr ⟨by simpa using (by rw [HY.out]; exact HY0.out : 0 ≤ at0 at' g), by simpa using HY.out.symm, rfl⟩⟩⟩

set_option maxRecDepth 100000 in
set_option maxHeartbeats 2000000 in
theorem rleaves_any (k : Lk) (t : Int) (o : Value) (w : World) (hs : SpRow w o k.op) (hl : k.op.length ≤ 9223372036854775807) :
    Calls Try.prog 45 #[lkV k o, .int .i64 t] w fun e w' => e = .returned (.bool (canB k t)) ∧ Below w.heap.size w w' := by
  obtain ⟨sa, sc, rfl, _⟩ := hs.form
  have HC := Lib.hid (fun w' (h : Below w.heap.size w w') => rLeave_any k t (.slice sa k.op.length sc) w' (hs.keep h) hl)
  obtain ⟨x, hx⟩ : ∃ x, leaveO k t = x := ⟨_, rfl⟩
  have HV : Hid (canB k t = decide (x = some t)) := Lib.hid (by unfold canB; rw [hx])
  rw [hx] at HC
  obtain ⟨fr, to, dl, op⟩ := k
  unfold lkV at HC ⊢
  simp only at HC
  have HB0 := Lib.hid ((Below.refl _ w).alloc (Nat.le_refl w.heap.size) (.cells #[.int .i64 fr, .int .i64 to, .int .i64 dl, .slice sa op.length sc] 27))
  clear hs hx
  cases x with
  | none =>
    unfold optV at HC
    go_enter Try.func45, Try.ntmps45
    go_wp2_with fail
    refine (HC.out _ HB0.out).mono ?_
    rintro e w1 ⟨rfl, hb⟩
    have HB1 := Lib.hid (HB0.out.trans (hb.mono HB0.out.size))
    clear hb
    go_wp2_with fail
    go_ret
    exact ⟨ret_bool' (by rw [HV.out]; simp), HB1.out⟩
  | some d =>
    unfold optV at HC
    have HV2 : Hid (canB ⟨fr, to, dl, op⟩ t = (d == t)) := Lib.hid (by rw [HV.out]; by_cases h : d = t <;> simp [h])
    clear HV
    go_enter Try.func45, Try.ntmps45
    go_wp2_with fail
    refine (HC.out _ HB0.out).mono ?_
    rintro e w1 ⟨rfl, hb⟩
    have HB1 := Lib.hid (HB0.out.trans (hb.mono HB0.out.size))
    clear hb
    go_wp2_with fail
    go_ret
    exact ⟨ret_bool' (by rw [HV2.out]), HB1.out⟩
end Go.Proofs.Ytiboolbndfhomaa
