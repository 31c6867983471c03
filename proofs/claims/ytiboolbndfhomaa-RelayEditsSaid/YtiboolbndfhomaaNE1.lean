/- The reference of layer 2: asked, none; and in plain words: as many rounds as there are stations suffice for Latest. -/
import Derived.Test.YtiboolbndfhomaaNC4
import Derived.Test.YtiboolbndfhomaaNC8
import Derived.Test.YtiboolbndfhomaaND6
import Derived.Test.YtiboolbndfhomaaNB4
set_option linter.unusedVariables false
set_option linter.unusedSimpArgs false
namespace Go.Proofs.Ytiboolbndfhomaa
open Go.RowKit

set_option maxRecDepth 100000 in
set_option maxHeartbeats 2000000 in
theorem rasked_any (st : Int) (o : Value) (ls : List Lk) (a t : Int) (w : World) (hv : NRow w o ls) (hst : -9223372036854775808 ≤ st ∧ st ≤ 9223372036854775807) :
    Calls Try.prog 41 #[ntV st o, .int .i64 a, .int .i64 t] w fun e w' => e = .returned (.int .i64 (startE st ls a t)) ∧ Below w.heap.size w w' := by
  have HC := Lib.hid (fun w' (h : Below w.heap.size w w') => rCheck_any st o ls w' (hv.keep h) hst)
  obtain ⟨oa, oc, rfl, _⟩ := hv.row.form
  have HA := Lib.hid (fun W => net_cells w st (.slice oa ls.length oc) (W := W))
  have HB0 := Lib.hid ((Below.refl _ w).alloc (Nat.le_refl w.heap.size) (.cells #[.int .i64 st, .slice oa ls.length oc] 24))
  clear hv
  unfold ntV at HC ⊢
  by_cases hE : netE st ls = 0
  case neg =>
    have HV : Hid (startE st ls a t = netE st ls) := Lib.hid (by unfold startE; rw [if_neg hE])
    have hz : (netE st ls != 0) = true := by simpa using hE
    obtain ⟨q, hq⟩ : ∃ q, netE st ls = q := ⟨_, rfl⟩
    rw [hq] at HC hz HV
    clear hE hq
    go_enter Try.func41, Try.ntmps41
    go_wp2_with fail
    refine (HC.out _ HB0.out).mono ?_
    rintro e w1 ⟨rfl, hb⟩
    have HB1 := Lib.hid (HB0.out.trans (hb.mono HB0.out.size))
    clear hb
    go_wp2_with fail
    go_ret
    exact ⟨ret_int' HV.out.symm, HB1.out⟩
  have hst1 : 1 ≤ st ∧ st ≤ 10 := ⟨(netE_ok hE).1, (netE_ok hE).2.1⟩
  obtain ⟨s1, s2⟩ := hst1
  have HW1 := Lib.hid (fun w' => rwithin_any a 0 (st - 1) w')
  have HW2 := Lib.hid (fun w' => rwithin_any t 0 1048576 w')
  simp only [inB_st] at HW1
  have hws : IntKind.i64.wrap (st - 1) = st - 1 := IntWalk.i64_in _ (by omega)
  rw [hE] at HC
  have HV : Hid (startE st ls a t = if stB st a = true ∧ inB t 0 1048576 = true then 0 else 1) := Lib.hid (by
    unfold startE inB
    rw [if_pos hE]
    simp only [Bool.and_eq_true, decide_eq_true_eq])
  clear hE
  go_enter Try.func41, Try.ntmps41
  go_wp2_with fail
  refine (HC.out _ HB0.out).mono ?_
  rintro e w1 ⟨rfl, hb⟩
  obtain ⟨n0, n1, _, hw1⟩ := HA.out w1 hb
  have HB1 := Lib.hid hw1
  clear hb hw1
  go_wp2_with fail
  refine (HW1.out _).mono ?_
  rintro e w2 ⟨rfl, rfl⟩
  go_wp2_with fail
  refine (HW2.out _).mono ?_
  rintro e w3 ⟨rfl, rfl⟩
  cases h1 : stB st a
  · rw [h1] at HV
    clear h1
    go_wp2_with fail
    go_ret
    exact ⟨ret_int' (by rw [HV.out]; simp), HB1.out⟩
  cases h2 : inB t 0 1048576
  · rw [h1, h2] at HV
    clear h1 h2
    go_wp2_with fail
    go_ret
    exact ⟨ret_int' (by rw [HV.out]; simp), HB1.out⟩
  rw [h1, h2] at HV
  clear h1 h2
  go_wp2_with fail
  go_ret
  exact ⟨ret_int' (by rw [HV.out]; simp), HB1.out⟩

/-- What none returns. -/
def NoneOut (s : Nat) (w : World) (e : Ending) (w' : World) : Prop :=
  ∃ A, e = .returned (.slice (some ⟨A, 0, none⟩) s s) ∧ w.heap.size < A ∧ A < w'.heap.size ∧ w'.heap[A]? = some (.cells (intsA (List.replicate s (-1))) 3 (0, 0)) ∧ Below w.heap.size w w'
set_option maxRecDepth 100000 in
set_option maxHeartbeats 4000000 in
theorem rnone_any (s : Nat) (o : Value) (w : World) (h10 : s ≤ 10) (ho : ∃ oa n oc, o = .slice oa n oc) : Calls Try.prog 42 #[ntV s o] w fun e w' => NoneOut s w e w' := by
  obtain ⟨oa, n, oc, rfl⟩ := ho
  have hm1 := mk_ints s h10
  have HA := Lib.hid (fun W => net_cells w s (.slice oa n oc) (W := W))
  have hb0 := (Below.refl _ w).alloc (Nat.le_refl w.heap.size) (.cells #[.int .i64 s, .slice oa n oc] 24)
  have HS0 : Hid (LtS w ((w.alloc (.cells #[.int .i64 s, .slice oa n oc] 24)).alloc (.cells (intsA (List.replicate s 0)) 3)) s (.slice oa n oc) (w.heap.size + 1) (atJ s 0)) := Lib.hid
    ⟨hb0.alloc (by simp) _, by rw [gNe _ _ _ (by simp)]; exact heap_alloc_new _ _, ⟨by omega, by simp⟩, by rw [show w.heap.size + 1 = (w.alloc (.cells #[.int .i64 s, .slice oa n oc] 24)).heap.size by simp, gAt _ _ _ rfl, atJ_zero], by rw [atJ_len]⟩
  clear hb0
  unfold ntV
  go_enter Try.func42, Try.ntmps42
  go_wp2_with fail
  obtain ⟨A, hA⟩ : ∃ A, w.heap.size + 1 = A := ⟨_, rfl⟩
  have hAw : w.heap.size < A := by omega
  rw [hA] at HS0
  rw [hA]
  clear hA
  go_loopw [4] (fun i wr => ∃ k : Nat, k ≤ s ∧ i = .int .i64 k ∧ Hid (LtS w wr s (.slice oa n oc) A (atJ s k))) (fun i _ => s - (intOf i).toNat)
  case atStart => exact ⟨0, Nat.zero_le _, rfl, HS0⟩
  case round =>
    obtain ⟨k, hk, rfl, hF⟩ := hrel
    clear hm1
    have hN0 : wr.cell? ⟨w.heap.size, 0, none⟩ = some (.int .i64 s) := cellH hF.out.net 0
    by_cases hkl : k < s
    · have HKL := Lib.hid hkl
      have hki : (k : Int) < s := by omega
      have hk0 : (0 : Int) ≤ k := by omega
      have hA0 : wr.cell? ⟨A, k, none⟩ = some (.int .i64 ((atJ s k).getD k 0)) := (cellH hF.out.ha k).trans (intsA_at _ _ (by rw [atJ_len]; exact hkl))
      have hA1 : wr.frozen? ⟨A, k, none⟩ = false := freeH hF.out.ha k
      have HF2 : Hid (LtS w (wr.setCell ⟨A, k, none⟩ (.int .i64 (-1))) s (.slice oa n oc) A (atJ s (k + 1))) := Lib.hid (by
        have := hF.out.setA k (-1); rwa [atJ_set _ _ hkl] at this)
      go_wp2_with fail
      go_roundw
      case rel => exact ⟨k + 1, HKL.out, by go_num, HF2⟩
      case measure => have := HKL.out; simp [intOf]; omega
    · obtain rfl : k = s := by omega
      have HR : Hid (NoneOut k w (.returned (.slice (some ⟨A, 0, none⟩) k k)) wr) := Lib.hid ⟨A, rfl, hF.out.lie.1, hF.out.lie.2, by rw [← atJ_full]; exact hF.out.ha, hF.out.below⟩
      go_wp2_with fail
      go_ret
      exact HR.out

/-! Latest's rounds. -/
inductive BackV (ls : List Lk) (b : Nat) (t : Int) : List Nat → Nat → Int → Prop
  | start : BackV ls b t [b] b t
  | step {vs : List Nat} {m d : Int} (i : Nat) : i < ls.length → BackV ls b t vs (toN ls i) m → lastO (lkA ls i) m = some d → frN ls i ∉ vs → BackV ls b t (frN ls i :: vs) (frN ls i) d
theorem BackV.nodup {ls : List Lk} {a : Nat} {t : Int} {vs : List Nat} {s : Nat} {m : Int} (h : BackV ls a t vs s m) : vs.Nodup := by
  induction h with
  | start => simp
  | step i _ _ _ hn ih => exact List.nodup_cons.2 ⟨hn, ih⟩
theorem BackV.pos {ls : List Lk} {a : Nat} {t : Int} {vs : List Nat} {s : Nat} {m : Int} (h : BackV ls a t vs s m) : 1 ≤ vs.length := by
  induction h with
  | start => simp
  | step i _ _ _ hn ih => simp
theorem BackV.lt {st : Nat} {ls : List Lk} {a : Nat} {t : Int} (he : EndsOk st ls) (ha : a < st) {vs : List Nat} {s : Nat} {m : Int} (h : BackV ls a t vs s m) : ∀ x ∈ vs, x < st := by
  induction h with
  | start => intro x hx; rw [List.mem_singleton.1 hx]; exact ha
  | step i hi _ _ _ ih =>
    intro x hx
    rcases List.mem_cons.1 hx with rfl | hx
    · exact (he i hi).1
    · exact ih x hx
theorem BackV.nonneg {ls : List Lk} {a : Nat} {t : Int} (ht : 0 ≤ t) {vs : List Nat} {s : Nat} {m : Int} (h : BackV ls a t vs s m) : 0 ≤ m := by
  cases h with
  | start => exact ht
  | step i hi _ hl _ => exact (lastO_bd hl).1
theorem BackV.upto {ls : List Lk} {a : Nat} {t : Int} {vs : List Nat} {s : Nat} {m : Int} (h : BackV ls a t vs s m) : ∀ v ∈ vs, ∃ us n, BackV ls a t us v n ∧ m ≤ n ∧ us.length ≤ vs.length := by
  induction h with
  | start => intro v hv; rw [List.mem_singleton.1 hv]; exact ⟨_, _, .start, Int.le_refl _, Nat.le_refl _⟩
  | @step vs m d i hi hw hl hn ih =>
    intro v hv
    rcases List.mem_cons.1 hv with rfl | hv
    · exact ⟨_, _, .step i hi hw hl hn, Int.le_refl _, Nat.le_refl _⟩
    · obtain ⟨us, n, h1, h2, h3⟩ := ih v hv
      have := lastO_bd hl
      exact ⟨us, n, h1, by omega, by simp; omega⟩
theorem Back.simple {ls : List Lk} {a : Nat} {t : Int} {s : Nat} {m : Int} (h : Back ls a t s m) : ∃ vs n, BackV ls a t vs s n ∧ m ≤ n := by
  induction h with
  | start => exact ⟨_, _, .start, Int.le_refl _⟩
  | @step m d i hi hw hl ih =>
    obtain ⟨vs, n, h1, h2⟩ := ih
    obtain ⟨u, u1, u2⟩ := lastO_mono h2 hl
    have hb := lastO_bd u1
    by_cases c : frN ls i ∈ vs
    · obtain ⟨us, x, q1, q2, _⟩ := h1.upto _ c
      exact ⟨us, x, q1, by omega⟩
    · exact ⟨_, _, .step i hi h1 u1 c, by omega⟩
/-- The numbers are at least the minutes of all ways back with at most k links. -/
def RKL (ls : List Lk) (a : Nat) (t : Int) (k : Nat) (at' : List Int) : Prop := ∀ vs s m, BackV ls a t vs s m → vs.length ≤ k + 1 → m ≤ at0 at' s
theorem RKL.shut {st : Nat} {ls : List Lk} {a : Nat} {t : Int} {at' : List Int} (he : EndsOk st ls) (hI : InvL st ls a t at') (h : RKL ls a t st at') : ShutL ls at' := by
  intro i hi d hd
  obtain ⟨e1, e2, e3⟩ := he i hi
  have hb := lastO_bd hd
  obtain ⟨vs, n, h1, h2⟩ := (hI.wk _ e2 (by omega)).simple
  have hlen := short st vs h1.nodup (h1.lt he hI.bl)
  have h3 := h vs _ n h1 (by omega)
  have hn : n = at0 at' (toN ls i) := by omega
  by_cases c : frN ls i ∈ vs
  · obtain ⟨us, x, q1, q2, q3⟩ := h1.upto _ c
    have := h us _ x q1 (by omega)
    omega
  · rw [hn] at h1
    exact h _ _ _ (.step i hi h1 hd c) (by simp; omega)
/-- Nowhere earlier. -/
def GeA (x y : List Int) : Prop := ∀ s, at0 x s ≤ at0 y s
theorem GeA.refl (x : List Int) : GeA x x := fun s => Int.le_refl _
theorem GeA.trans {x y z : List Int} (h : GeA x y) (k : GeA y z) : GeA x z := fun s => Int.le_trans (h s) (k s)
theorem RKL.start {ls : List Lk} {a : Nat} {t : Int} {at' : List Int} (h0 : t ≤ at0 at' a) : RKL ls a t 0 at' := by
  intro vs s m h hl
  cases h with
  | start => exact h0
  | step i hi hw hd hn =>
    have := hw.pos
    simp only [List.length_cons] at hl
    omega
theorem RKL.mono {ls : List Lk} {a : Nat} {t : Int} {k : Nat} {x y : List Int} (h : RKL ls a t k x) (hl : GeA x y) : RKL ls a t k y := fun vs s m hw hk => Int.le_trans (h vs s m hw hk) (hl s)
theorem RKL.round {ls : List Lk} {a : Nat} {t : Int} {k : Nat} {x y : List Int} (ht : 0 ≤ t) (h : RKL ls a t k x) (hr : GeA x y)
    (hl : ∀ i, i < ls.length → ∃ z z', GeA x z ∧ GeA z' y ∧ ∀ d, 0 ≤ at0 z (toN ls i) → lastO (lkA ls i) (at0 z (toN ls i)) = some d → d ≤ at0 z' (frN ls i)) : RKL ls a t (k + 1) y := by
  intro vs s m hw hk
  cases hw with
  | start => exact Int.le_trans (h _ _ _ .start (by simp)) (hr _)
  | @step us n d i hi hw hd hn =>
    have h1 := h us _ n hw (by simp at hk; omega)
    have h0 := hw.nonneg ht
    obtain ⟨z, z', q1, q2, q3⟩ := hl i hi
    have h3 := q1 (toN ls i)
    obtain ⟨u, u1, u2⟩ := lastO_mono (x := n) (y := at0 z (toN ls i)) (by omega) hd
    have h5 := q3 u (by omega) u1
    have h7 := q2 (frN ls i)
    omega
end Go.Proofs.Ytiboolbndfhomaa
