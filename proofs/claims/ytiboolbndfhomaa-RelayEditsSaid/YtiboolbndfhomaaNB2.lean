/- Earliest of package relay. -/
import Derived.Test.YtiboolbndfhomaaNA9
set_option linter.unusedVariables false
set_option linter.unusedSimpArgs false
namespace Go.Proofs.Ytiboolbndfhomaa
open Go.RowKit

/-- What Earliest returns. -/
def EarlyOut (st : Int) (ls : List Lk) (a t : Int) (w : World) (e : Ending) (w' : World) : Prop :=
  ∃ v, e = .returned (.tuple #[v, .int .i64 (startE st ls a t)]) ∧ Below w.heap.size w w' ∧ (startE st ls a t ≠ 0 → v = .slice none 0 0) ∧
    (startE st ls a t = 0 → ∃ at' by', INRow w' v at' ∧ Inv st.toNat ls a.toNat t at' by' ∧ Shut ls at')
theorem field_ar (g : Option Addr) (n c : Nat) (h : Option Addr) (m d : Nat) (W : World) : (Instr.field 68 (.agg #[.slice g n c, .slice h m d]) 0).run Try.prog W = .ok (.slice g n c) W := by kernel_rfl
set_option maxRecDepth 100000 in
set_option maxHeartbeats 2000000 in
theorem Earliest_any (st : Int) (o : Value) (ls : List Lk) (a t : Int) (w : World) (hv : NRow w o ls) :
    Calls Try.prog 18 #[ntV st o, .int .i64 a, .int .i64 t] w fun e w' => EarlyOut st ls a t w e w' := by
  have HC := Lib.hid (fun w' (h : Below w.heap.size w w') => checkStart_any st o ls a t w' (hv.keep h))
  obtain ⟨oa, oc, rfl, _⟩ := hv.row.form
  have HA := Lib.hid (fun W => net_cells w st (.slice oa ls.length oc) (W := W))
  have HB0 := Lib.hid ((Below.refl _ w).alloc (Nat.le_refl w.heap.size) (.cells #[.int .i64 st, .slice oa ls.length oc] 24))
  have HV := Lib.hid hv
  clear hv
  unfold ntV at HC ⊢
  by_cases hE : startE st ls a t = 0
  case neg =>
    have HE := Lib.hid hE
    have hz : (startE st ls a t != 0) = true := by simpa using hE
    obtain ⟨q, hq⟩ : ∃ q, startE st ls a t = q := ⟨_, rfl⟩
    have HQ := Lib.hid hq
    rw [hq] at HC hz
    clear hE hq
    go_enter Try.func18, Try.ntmps18
    go_wp2_with fail
    refine (HC.out _ HB0.out).mono ?_
    rintro e w1 ⟨rfl, hb⟩
    have HB1 := Lib.hid (HB0.out.trans (hb.mono HB0.out.size))
    clear hb
    go_wp2_with fail
    go_ret2
    exact ⟨.slice none 0 0, by rw [HQ.out]; rfl, HB1.out, fun _ => rfl, fun h => absurd h HE.out⟩
  obtain ⟨hne, a0, a1, t0, t1⟩ := startE_ok hE
  obtain ⟨s1, s10, l40, hks⟩ := netE_ok hne
  obtain ⟨m, rfl⟩ : ∃ m : Nat, a = m := ⟨a.toNat, by omega⟩
  obtain ⟨s, rfl⟩ : ∃ s : Nat, st = s := ⟨st.toNat, by omega⟩
  have HS := Lib.hid (fun w' (h : Below w.heap.size w w') => spread_any s oa oc ls m t w' (by omega) (by omega) (by omega) t0 t1 (HV.out.keep h) hks l40)
  have HE := Lib.hid hE
  rw [hE] at HC
  clear hE hne hks a0 a1 t0 t1 s1 s10 l40
  go_enter Try.func18, Try.ntmps18
  go_wp2_with fail
  refine (HC.out _ HB0.out).mono ?_
  rintro e w1 ⟨rfl, hb⟩
  obtain ⟨c0, c1, hlt, hb1⟩ := HA.out w1 hb
  have HB1 := Lib.hid hb1
  clear hb hb1
  go_wp2_with fail
  refine (HS.out _ HB1.out).mono ?_
  rintro e w2 ⟨va, vb, at', by', rfl, h1, h2, h3, h4, hb⟩
  obtain ⟨ga, ca, rfl, _⟩ := h1.form
  obtain ⟨gb, cb, rfl, _⟩ := h2.form
  have H1 := Lib.hid h1; have H3 := Lib.hid h3; have H4 := Lib.hid h4
  have HB2 := Lib.hid (HB1.out.trans (hb.mono HB1.out.size))
  have hfd := field_ar ga at'.length ca gb by'.length cb
  clear h1 h2 h3 h4 hb
  go_wp2_with fail
  go_ret2
  exact ⟨.slice ga at'.length ca, by rw [HE.out]; rfl, HB2.out, fun h => absurd HE.out h, fun _ => ⟨at', by', H1.out, by simpa using H3.out, H4.out⟩⟩
end Go.Proofs.Ytiboolbndfhomaa
