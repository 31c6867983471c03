/- All that flashes can become, in the order in which they are told, in plain words. -/
import Derived.Test.YtjbdmlpadoiicaaGreatDoorD1
import Derived.Test.YtjbdmlpadoiicaaGreatDoorB3
import Derived.Test.YtjbdmlpadoiicaaGreatDoorT0
import Derived.StillTailTactics
import Derived.Handy
set_option linter.unusedVariables false
set_option linter.unusedSimpArgs false
namespace Go.Proofs.YtjbdmlpadoiicaaGreatDoor
open Go.RowKit Go.Shelf

/-- Whether the flash is no repetition of the one before it, as far as the place where the walk began. -/
def firstB (s : List UInt8) (frm k : Nat) : Bool := decide (k = frm) || (s.getD k 0 != s.getD (k - 1) 0)
def swapB (s : List UInt8) (k : Nat) : Bool := decide (k + 1 < s.length) && (s.getD k 0 != s.getD (k + 1) 0)
/-- The flashes from one place up to another. -/
def cutL (s : List UInt8) (a b : Nat) : List UInt8 := (s.drop a).take (b - a)
def walkL (s : List UInt8) : Nat → Nat → List UInt8 → List (List UInt8)
  | 0, frm, done => [done ++ s.drop frm]
  | left + 1, frm, done => (done ++ s.drop frm) :: (List.range (s.length - frm)).flatMap fun d =>
      (if firstB s frm (frm + d) then walkL s left (frm + d + 1) (done ++ cutL s frm (frm + d)) ++ walkL s left (frm + d + 1) (done ++ cutL s frm (frm + d) ++ cutL s (frm + d) (frm + d + 1) ++ cutL s (frm + d) (frm + d + 1)) else [])
      ++ (if swapB s (frm + d) then walkL s left (frm + d + 2) (done ++ cutL s frm (frm + d) ++ cutL s (frm + d + 1) (frm + d + 2) ++ cutL s (frm + d) (frm + d + 1)) else [])
example : walkL [46, 45] 1 0 [] = [[46, 45], [45], [46, 46, 45], [45, 46], [46], [46, 45, 45]] := by decide
/-- What one place adds. -/
def stepL (s : List UInt8) (left frm k : Nat) (done : List UInt8) : List (List UInt8) :=
  (if firstB s frm k then walkL s left (k + 1) (done ++ cutL s frm k) ++ walkL s left (k + 1) (done ++ cutL s frm k ++ cutL s k (k + 1) ++ cutL s k (k + 1)) else [])
  ++ (if swapB s k then walkL s left (k + 2) (done ++ cutL s frm k ++ cutL s (k + 1) (k + 2) ++ cutL s k (k + 1)) else [])
/-- What the places from one on up to another add. -/
def stepsL (s : List UInt8) (left frm : Nat) (done : List UInt8) (m : Nat) : List (List UInt8) := (List.range m).flatMap fun d => stepL s left frm (frm + d) done
theorem stepsL_succ (s : List UInt8) (left frm : Nat) (done : List UInt8) (m : Nat) : stepsL s left frm done (m + 1) = stepsL s left frm done m ++ stepL s left frm (frm + m) done := by simp [stepsL, List.range_succ]
theorem walkL_zero (s : List UInt8) (frm : Nat) (done : List UInt8) : walkL s 0 frm done = [done ++ s.drop frm] := rfl
theorem walkL_succ (s : List UInt8) (left frm : Nat) (done : List UInt8) : walkL s (left + 1) frm done = (done ++ s.drop frm) :: stepsL s left frm done (s.length - frm) := by
  unfold stepsL stepL; rw [walkL]
def outL (s : List UInt8) (faults : Nat) : List (List UInt8) := walkL s faults 0 []

/-- No string grows beyond twice its length. -/
theorem cutL_length (s : List UInt8) (a b : Nat) : (cutL s a b).length ≤ b - a := by simp [cutL]; omega
theorem cutL_extract (s : List UInt8) (a b : Nat) (h : a ≤ b) : (B s).extract a b = B (cutL s a b) := by
  apply ext_L
  rw [L_B, ByteArray.data_extract, Array.toList_extract, L_B, List.extract]; rfl
theorem drop_extract (s : List UInt8) (a : Nat) : (B s).extract a s.length = B (s.drop a) := by
  apply ext_L
  rw [L_B, ByteArray.data_extract, Array.toList_extract, L_B, List.extract, List.take_of_length_le (by simp)]
end Go.Proofs.YtjbdmlpadoiicaaGreatDoor

/-! outcomes: the walk over the places of faults. -/
namespace Go.Proofs.YtjbdmlpadoiicaaGreatDoor
open Go.RowKit Go.Shelf

theorem drop_run (W : World) (s : List UInt8) (a : Nat) (ha : a ≤ s.length) : (Instr.slice 9 (.string (B s)) (some (.int .i64 (a : Int))) none none).run Tryz.prog W = .ok (.string (B (s.drop a))) W := by
  have h1 : 0 ≤ (a : Int) ∧ (a : Int) ≤ s.length := by omega
  have h2 := drop_extract s a
  simp [Instr.slice, Instr.sliceBounds, Instr.sliceBound, asIntOf, run_underlying Tryz.underlying9, h1, h2, go_sem]
  intro h; omega

theorem B_add (a b : List UInt8) : B (a ++ b) = B a ++ B b := by apply ext_L; simp

/-- The walk's three boxes: what is yielded to, the flashes, the walk itself. -/
structure Boxes3 (W : World) (l Yb Sb Wb : Nat) (s : List UInt8) : Prop where
  y : W.cell? ⟨Yb, 0, none⟩ = some (.func (.yield l) #[] #[])
  s : W.cell? ⟨Sb, 0, none⟩ = some (.string (B s))
  w : W.cell? ⟨Wb, 0, none⟩ = some (.func (.func 126) #[] #[.pointer (some ⟨Yb, 0, none⟩), .pointer (some ⟨Sb, 0, none⟩), .pointer (some ⟨Wb, 0, none⟩)])
theorem Boxes3.keep {A X : World} {l Yb Sb Wb : Nat} {s : List UInt8} (h : Boxes3 A l Yb Sb Wb s) (k : SameOn [Yb, Sb, Wb] A X) : Boxes3 X l Yb Sb Wb s :=
  ⟨(k.cell (p := ⟨Yb, 0, none⟩) (by simp)).trans h.y, (k.cell (p := ⟨Sb, 0, none⟩) (by simp)).trans h.s, (k.cell (p := ⟨Wb, 0, none⟩) (by simp)).trans h.w⟩

/-- What the walk asks of the one who listens. -/
def Hears (m l : Nat) (bs : List Nat) (J Jx : List (List UInt8) → World → Prop) (total : List (List UInt8)) : Prop :=
  ∀ pre x W1, J pre W1 → pre.length < total.length → YieldAt Fence.wide m Tryz.prog l #[.string (B x)] W1 fun e W' =>
    (e = .returned (.bool true) ∧ J (pre ++ [x]) W' ∧ SameOn bs W1 W') ∨ (e = .returned (.bool false) ∧ Jx (pre ++ [x]) W')

theorem bidx_run (s : List UInt8) (k : Nat) (hk : k < s.length) (y : Int) (hy : y = k) (W : World) : (Instr.index 9 (.string (B s)) (.int .i64 y)).run Tryz.prog W = .ok (.int .u8 (s.getD k 0).toNat) W := by
  subst hy
  rw [run_index_string _ _ _ _ _ Tryz.underlying9, dif_pos ⟨by omega, by rw [size_B]; omega⟩]
  have : (B s)[(k : Int).toNat]'(by rw [size_B]; omega) = s.getD k 0 := by rw [bat_eq _ _ (by rw [size_B]; omega), bat_B]; rfl
  rw [this]
theorem SameOn.drewN (bs : List Nat) (A : World) (n : Nat) : SameOn bs A (A.drewN n) := fun b _ => by simp
theorem steps_mono (s : List UInt8) (left frm : Nat) (done : List UInt8) {m n : Nat} (h : m ≤ n) : stepsL s left frm done m <+: stepsL s left frm done n := by
  induction n with
  | zero =>
    obtain rfl : m = 0 := by omega
    exact List.prefix_refl _
  | succ n ih =>
    by_cases e : m = n + 1
    · subst e; exact List.prefix_refl _
    · exact (ih (by omega)).trans (by rw [stepsL_succ]; exact List.prefix_append _ _)
theorem steps_pre {s : List UInt8} {left frm m : Nat} {done x : List UInt8} {pre total : List (List UInt8)} {N : Nat} (h : pre ++ x :: stepsL s left frm done N <+: total) (hm : m < N) :
    (pre ++ x :: stepsL s left frm done m) ++ stepL s left frm (frm + m) done <+: total := by
  refine List.IsPrefix.trans ?_ h
  rw [List.append_assoc, List.cons_append, ← stepsL_succ]
  exact (List.prefix_append_right_inj _).2 ((List.prefix_cons_inj _).2 (steps_mono s left frm done (by omega)))

set_option maxRecDepth 100000 in
set_option maxHeartbeats 4000000 in
theorem walk_any (s : List UInt8) (hs : s.length ≤ 100) (l Yb Sb Wb : Nat) (J Jx : List (List UInt8) → World → Prop) (total : List (List UInt8))
    (hJ : ∀ p A m, J p A → J p (A.drewN m)) (hH : ∀ m, Hears m l [Yb, Sb, Wb] J Jx total) :
    ∀ (left frm : Nat) (done : List UInt8) (pre : List (List UInt8)) (W : World) (n : Nat), left ≤ 3 → done.length + 200 * left ≤ 1000 → frm ≤ s.length → pre ++ walkL s left frm done <+: total → J pre W → Boxes3 W l Yb Sb Wb s →
      CallsIn Fence.wide n Tryz.prog 126 #[.string (B done), .int .i64 frm, .int .i64 left, .pointer (some ⟨Yb, 0, none⟩), .pointer (some ⟨Sb, 0, none⟩), .pointer (some ⟨Wb, 0, none⟩)] W fun e W' =>
        (e = .returned (.bool true) ∧ J (pre ++ walkL s left frm done) W' ∧ SameOn [Yb, Sb, Wb] W W') ∨ (e = .returned (.bool false) ∧ ∃ pre', pre' <+: total ∧ Jx pre' W') := by
  intro left
  induction left with
  | zero =>
    intro frm done pre W n _ hd hf hpre hJ0 hB
    rw [walkL_zero] at hpre ⊢
    have hlen : pre.length < total.length := by have := hpre.length_le; simp at this; omega
    obtain ⟨fn, tmps, assign, body, hy, hR⟩ := hH (n - 1) pre (done ++ s.drop frm) _ (hJ _ _ 1 hJ0) hlen
    rw [B_add] at hy
    have hcy := hB.y
    have hcs := hB.s
    have hdr := fun W' => drop_run W' s frm hf
    have hadd : ¬ 9223372036854775807 < done.length + (s.length - frm) := by omega
    have hHH := Lib.hid hH; have hJJ := Lib.hid hJ; have hBB := Lib.hid hB; have hPR := Lib.hid hpre
    clear hH hJ hB hpre
    refine callsIn_of_wp Tryz.func126 rfl trivial ?_ rfl
    simp only [Tryz.ntmps126, List.size_toArray, List.length_cons, List.length_nil, Nat.reduceAdd, Nat.reduceSub, Array.replicate_succ, Array.replicate_zero, List.push_toArray, List.append_toArray, List.nil_append, List.cons_append]
    gi_wp2
    refine wpInW_region_still_tail 6 (by kernel_rfl) (by kernel_rfl) ?_
    simp only [List.take_succ_cons, List.take_zero, List.drop_succ_cons, List.drop_zero]
    iterate 6 still_step
    refine wpStill_nil ?_
    gi_wp2
    refine ⟨(fun h => by cases h), ?_⟩
    refine hR.mono ?_
    rintro e W3 (⟨rfl, hJ3, hk3⟩ | ⟨rfl, hJx3⟩)
    · gi_wp2
      exact bodyPost_ret (results_tmp rfl _ _ _) rfl (.inl ⟨rfl, hJ3, hk3⟩)
    · gi_wp2
      exact bodyPost_ret (results_tmp rfl _ _ _) rfl (.inr ⟨rfl, _, hPR.out, hJx3⟩)
  | succ left ih =>
    intro frm done pre W n hl3 hd hf hpre hJ0 hB
    rw [walkL_succ] at hpre ⊢
    have hlen : pre.length < total.length := by have := hpre.length_le; simp at this; omega
    obtain ⟨fn, tmps, assign, body, hy, hR⟩ := hH (n - 1) pre (done ++ s.drop frm) _ (hJ _ _ 1 hJ0) hlen
    rw [B_add] at hy
    have hcy := hB.y
    have hcs := hB.s
    have hdr := fun W' => drop_run W' s frm hf
    have hadd : ¬ 9223372036854775807 < done.length + (s.length - frm) := by omega
    have hz : (((left : Int) + 1) == 0) = false := by simp; omega
    have hPR0 : pre ++ [done ++ s.drop frm] <+: total := List.IsPrefix.trans ⟨stepsL s left frm done (s.length - frm), by simp⟩ hpre
    have hHH := Lib.hid hH; have hJJ := Lib.hid hJ; have hBB := Lib.hid hB; have hPR := Lib.hid hpre; have HIH := Lib.hid ih; have HP0 := Lib.hid hPR0
    clear hH hJ hB hpre ih hPR0
    refine callsIn_of_wp Tryz.func126 rfl trivial ?_ rfl
    simp only [Tryz.ntmps126, List.size_toArray, List.length_cons, List.length_nil, Nat.reduceAdd, Nat.reduceSub, Array.replicate_succ, Array.replicate_zero, List.push_toArray, List.append_toArray, List.nil_append, List.cons_append]
    gi_wp2
    refine wpInW_region_still_tail 6 (by kernel_rfl) (by kernel_rfl) ?_
    simp only [List.take_succ_cons, List.take_zero, List.drop_succ_cons, List.drop_zero]
    iterate 6 still_step
    refine wpStill_nil ?_
    gi_wp2
    refine ⟨(fun h => by cases h), ?_⟩
    refine hR.mono ?_
    rintro e W3 (⟨rfl, hJ3, hk3⟩ | ⟨rfl, hJx3⟩)
    · clear hy hR hdr hadd
      gi_wp2
      have hB3 := hBB.out.keep hk3
      have HK3 := Lib.hid hk3
      clear hk3
      refine wpIn_wide.2 ?_
      go_loopw [10] (fun i wr => ∃ m : Nat, m ≤ s.length - frm ∧ i = .int .i64 ((frm + m : Nat) : Int) ∧ J (pre ++ (done ++ s.drop frm) :: stepsL s left frm done m) wr ∧ SameOn [Yb, Sb, Wb] W wr) (fun i _ => s.length + 1 - (intOf i).toNat)
      case atStart => exact ⟨0, Nat.zero_le _, rfl, by simpa [stepsL] using hJ3, HK3.out⟩
      case round =>
        clear hB3 hJ3 hcs hcy
        obtain ⟨m, hm, rfl, hJm, hBm⟩ := hrel
        have hBx := hBB.out.keep hBm
        have hcs := hBx.s
        have hcw := hBx.w
        by_cases hlt : m < s.length - frm
        · obtain ⟨k, hk⟩ : ∃ k, frm + m = k := ⟨_, rfl⟩
          rw [hk]
          have hks : k < s.length := by omega
          have hcut : ∀ W', (Instr.slice 9 (.string (B s)) (some (.int .i64 (frm : Int))) (some (.int .i64 (k : Int))) none).run Tryz.prog W' = .ok (.string (B (cutL s frm k))) W' := fun W' =>
            sslice_run W' s _ frm k (by omega) (by omega) (cutL_extract s frm k (by omega)) _ _ rfl rfl
          have hcl := cutL_length s frm k
          have hadd : ¬ 9223372036854775807 < done.length + (cutL s frm k).length := by omega
          have hlt' : (k : Int) < s.length := by omega
          have HK := Lib.hid hk
          obtain ⟨p0, hp0⟩ : ∃ p0, pre ++ (done ++ s.drop frm) :: stepsL s left frm done m = p0 := ⟨_, rfl⟩
          have HPT : Hid (p0 ++ stepL s left frm k done <+: total) := Lib.hid (by
            rw [← hp0, ← hk]; exact steps_pre hPR.out hlt)
          have HPN : Hid (pre ++ (done ++ s.drop frm) :: stepsL s left frm done (m + 1) = p0 ++ stepL s left frm k done) := Lib.hid (by rw [stepsL_succ, ← hp0, ← hk]; simp)
          rw [hp0] at hJm
          have HJm := Lib.hid hJm
          have HBm := Lib.hid hBm
          have hd1 : done.length + 200 * left + 200 ≤ 1000 := by omega
          have hm1 : m + 1 ≤ s.length - frm := by omega
          have hmk : frm + (m + 1) = k + 1 := by omega
          have HMK := Lib.hid hmk
          clear hp0 hk hd hm hlt hJm hBm hPR hmk
          have hia := bidx_run s k hks _ rfl
          obtain ⟨ca, eca⟩ : ∃ ca : Nat, (s.getD k 0).toNat = ca := ⟨_, rfl⟩
          rw [eca] at hia
          have HCA := Lib.hid eca
          clear eca
          have hw4 : left ≤ 3 := by omega
          have hcall : ∀ (k' : Nat) (d : List UInt8) (p : List (List UInt8)) (W' : World) (f t : Int) (q : Nat), k' ≤ s.length → d.length ≤ done.length + 200 → p ++ walkL s left k' d <+: total → J p W' → SameOn [Yb, Sb, Wb] W W' → f = k' → t = left →
              Calls Tryz.prog 126 #[.string (B d), .int .i64 f, .int .i64 t, .pointer (some ⟨Yb, 0, none⟩), .pointer (some ⟨Sb, 0, none⟩), .pointer (some ⟨Wb, 0, none⟩)] (W'.drewN q) fun e W' =>
                (e = .returned (.bool true) ∧ J (p ++ walkL s left k' d) W' ∧ SameOn [Yb, Sb, Wb] W W') ∨ (e = .returned (.bool false) ∧ ∃ pre', pre' <+: total ∧ Jx pre' W') := by
            rintro k' d p W' f t q hk' hd' hp' hj' hs' rfl rfl
            have hs' := hs'.trans (SameOn.drewN _ _ q)
            refine (callsIn_wide.1 (HIH.out k' d p _ n hw4 (by omega) hk' hp' (hJJ.out _ _ q hj') (hBB.out.keep hs'))).mono ?_
            rintro e W'' (⟨he, hj, hk⟩ | h)
            · exact .inl ⟨he, hj, hs'.trans hk⟩
            · exact .inr h
          have HC := Lib.hid hcall
          have HW1 : Hid (IntKind.i64.wrap ((k : Int) + 1) = (k : Int) + 1) := Lib.hid (IntWalk.i64_in _ (by omega))
          have HW2 : Hid (IntKind.i64.wrap ((k : Int) + 2) = (k : Int) + 2) := Lib.hid (IntWalk.i64_in _ (by omega))
          have HW3 : Hid (IntKind.i64.wrap (left : Int) = left) := Lib.hid (IntWalk.i64_in _ (by omega))
          clear hcall
          have hcut1 : ∀ W', (Instr.slice 9 (.string (B s)) (some (.int .i64 (k : Int))) (some (.int .i64 ((k : Int) + 1))) none).run Tryz.prog W' = .ok (.string (B (cutL s k (k + 1)))) W' := fun W' =>
            sslice_run W' s _ k (k + 1) (by omega) (by omega) (cutL_extract s k (k + 1) (by omega)) _ _ rfl (by omega)
          have hcl1 := cutL_length s k (k + 1)
          by_cases hm0 : m = 0 ∨ s.getD k 0 ≠ s.getD (k - 1) 0
          · have hf1 : firstB s frm k = true := by
              have := HK.out
              unfold firstB
              rcases hm0 with h | h
              · rw [decide_eq_true (by omega)]; rfl
              · rw [Bool.or_eq_true]; right; simpa using h
            have HF : Hid (p0 ++ walkL s left (k + 1) (done ++ cutL s frm k) ++ walkL s left (k + 1) (done ++ cutL s frm k ++ cutL s k (k + 1) ++ cutL s k (k + 1)) ++ (if swapB s k then walkL s left (k + 2) (done ++ cutL s frm k ++ cutL s (k + 1) (k + 2) ++ cutL s k (k + 1)) else []) = p0 ++ stepL s left frm k done) := Lib.hid (by
              unfold stepL; rw [hf1]; simp)
            have HP2 : Hid (p0 ++ walkL s left (k + 1) (done ++ cutL s frm k) ++ walkL s left (k + 1) (done ++ cutL s frm k ++ cutL s k (k + 1) ++ cutL s k (k + 1)) <+: total) := Lib.hid (List.IsPrefix.trans ⟨_, HF.out⟩ HPT.out)
            have HP1 : Hid (p0 ++ walkL s left (k + 1) (done ++ cutL s frm k) <+: total) := Lib.hid (List.IsPrefix.trans ⟨_, rfl⟩ HP2.out)
            have hadd1 : ¬ 9223372036854775807 < done.length + (cutL s frm k).length + (cutL s k (k + 1)).length := by omega
            have hadd2 : ¬ 9223372036854775807 < done.length + (cutL s frm k).length + (cutL s k (k + 1)).length + (cutL s k (k + 1)).length := by omega
            have HD1 : Hid ((done ++ cutL s frm k).length ≤ done.length + 200) := Lib.hid (by simp only [List.length_append]; omega)
            have HD2 : Hid ((done ++ cutL s frm k ++ cutL s k (k + 1) ++ cutL s k (k + 1)).length ≤ done.length + 200) := Lib.hid (by simp only [List.length_append]; omega)
            have HK1 : Hid (k + 1 ≤ s.length) := Lib.hid (by omega)
            clear hf1

            by_cases hm1' : m = 0
            · have hkf : ((k : Int) == (frm : Int)) = true := by have := HK.out; simp; omega
              clear hm0 hm1'
              go_wp2_with fail
              go_quiet (fail)
              go_wp2_with fail
              have H1 := fun q => HC.out (k + 1) (done ++ cutL s frm k) p0 wr ((k : Int) + 1) left q HK1.out HD1.out HP1.out HJm.out HBm.out (by omega) rfl
              simp only [B_add] at H1
              refine (H1 _).mono ?_
              clear H1
              rintro e W4 (⟨rfl, hJ4, hk4⟩ | ⟨rfl, pre', hp4, hx4⟩)
              · have HJ4 := Lib.hid hJ4; have HK4 := Lib.hid hk4
                have hB4 := hBB.out.keep hk4
                clear hJ4 hk4 hBx hcs hcw
                have hcs4 := hB4.s
                have hcw4 := hB4.w
                clear hB4
                go_wp2_with fail
                refine wp_still_tail1 20 (by kernel_rfl) (by kernel_rfl) ?_
                simp only [List.take_succ_cons, List.take_zero, List.drop_succ_cons, List.drop_zero]
                have wk1 := HW1.out; have wk2 := HW2.out; have wk3 := HW3.out
                iterate 20 still_step
                clear wk1 wk2 wk3
                refine wpStill_nil ?_
                go_wp2_with fail
                have H2 := fun q => HC.out (k + 1) (done ++ cutL s frm k ++ cutL s k (k + 1) ++ cutL s k (k + 1)) (p0 ++ walkL s left (k + 1) (done ++ cutL s frm k)) W4 ((k : Int) + 1) left q HK1.out HD2.out HP2.out HJ4.out HK4.out (by omega) rfl
                simp only [B_add] at H2
                refine (H2 _).mono ?_
                clear H2
                rintro e W5 (⟨rfl, hJ5, hk5⟩ | ⟨rfl, pre', hp5, hx5⟩)
                · have hB5 := hBB.out.keep hk5
                  clear hcs4 hcw4
                  have hcs5 := hB5.s
                  have hcw5 := hB5.w
                  clear hB5
                  obtain ⟨p1, hp1⟩ : ∃ p1, p0 ++ walkL s left (k + 1) (done ++ cutL s frm k) ++ walkL s left (k + 1) (done ++ cutL s frm k ++ cutL s k (k + 1) ++ cutL s k (k + 1)) = p1 := ⟨_, rfl⟩
                  have HJc : Hid (J p1 W5) := Lib.hid (by rw [← hp1]; exact hJ5)
                  have HSc := Lib.hid hk5
                  have HPc : Hid (p1 ++ (if swapB s k then walkL s left (k + 2) (done ++ cutL s frm k ++ cutL s (k + 1) (k + 2) ++ cutL s k (k + 1)) else []) = p0 ++ stepL s left frm k done) := Lib.hid (by rw [← hp1]; exact HF.out)
                  clear hJ5 hk5 hp1
                  by_cases hq1 : k + 1 < s.length
                  · have hqa : ((k : Int) + 1) < s.length := by omega
                    have hic := bidx_run s (k + 1) hq1 ((k : Int) + 1) (by omega)
                    obtain ⟨cc, ecc⟩ : ∃ cc : Nat, (s.getD (k + 1) 0).toNat = cc := ⟨_, rfl⟩
                    rw [ecc] at hic
                    by_cases hq2 : ca = cc
                    · subst hq2
                      have hsw : swapB s k = false := by
                        have := HCA.out.trans ecc.symm
                        unfold swapB; rw [UInt8.toNat_inj.1 this]; simp
                      have HPE : Hid (p0 ++ stepL s left frm k done = p1) := Lib.hid (by rw [← HPc.out, hsw]; simp)
                      clear hsw ecc hq1
                      go_wp2_with fail
                      go_quiet (fail)
                      go_wp2_with fail
                      go_roundw
                      case rel => exact ⟨m + 1, hm1, by rw [HMK.out]; rfl, by rw [HPN.out, HPE.out]; exact hJJ.out _ _ _ HJc.out, HSc.out.trans (SameOn.drewN _ _ _)⟩
                      case measure => simp [intOf]; omega
                    · have hsw : swapB s k = true := by
                        unfold swapB; rw [decide_eq_true hq1, Bool.true_and]; exact bne_iff_ne.2 (fun h => hq2 (by rw [← HCA.out, h, ecc]))
                      have hqn : ((ca : Int) != (cc : Int)) = true := by simp; omega
                      have HPE : Hid (p1 ++ walkL s left (k + 2) (done ++ cutL s frm k ++ cutL s (k + 1) (k + 2) ++ cutL s k (k + 1)) = p0 ++ stepL s left frm k done) := Lib.hid (by rw [← HPc.out, hsw]; simp)
                      have hcut3 : ∀ W', (Instr.slice 9 (.string (B s)) (some (.int .i64 ((k : Int) + 1))) (some (.int .i64 ((k : Int) + 2))) none).run Tryz.prog W' = .ok (.string (B (cutL s (k + 1) (k + 2)))) W' := fun W' =>
                        sslice_run W' s _ (k + 1) (k + 2) (by omega) (by omega) (cutL_extract s (k + 1) (k + 2) (by omega)) _ _ (by omega) (by omega)
                      have hcl3 := cutL_length s (k + 1) (k + 2)
                      have hadd3 : ¬ 9223372036854775807 < done.length + (cutL s frm k).length + (cutL s (k + 1) (k + 2)).length := by omega
                      have hadd4 : ¬ 9223372036854775807 < done.length + (cutL s frm k).length + (cutL s (k + 1) (k + 2)).length + (cutL s k (k + 1)).length := by omega
                      have HDL : Hid ((done ++ cutL s frm k ++ cutL s (k + 1) (k + 2) ++ cutL s k (k + 1)).length ≤ done.length + 200) := Lib.hid (by simp only [List.length_append]; omega)
                      have HK2 : Hid (k + 2 ≤ s.length) := Lib.hid (by omega)
                      clear hsw ecc hq2 hq1
                      go_wp2_with fail
                      refine wp_still_tail1 35 (by kernel_rfl) (by kernel_rfl) ?_
                      simp only [List.take_succ_cons, List.take_zero, List.drop_succ_cons, List.drop_zero]
                      have wk1 := HW1.out; have wk2 := HW2.out; have wk3 := HW3.out
                      iterate 35 still_step
                      clear wk1 wk2 wk3
                      refine wpStill_nil ?_
                      go_wp2_with fail
                      have H3 := fun q => HC.out (k + 2) (done ++ cutL s frm k ++ cutL s (k + 1) (k + 2) ++ cutL s k (k + 1)) p1 _ ((k : Int) + 2) left q HK2.out HDL.out (by rw [HPE.out]; exact HPT.out) HJc.out HSc.out (by omega) rfl
                      simp only [B_add] at H3
                      refine (H3 _).mono ?_
                      clear H3
                      rintro e W6 (⟨rfl, hJ6, hk6⟩ | ⟨rfl, pre', hp6, hx6⟩)
                      · have HJ6 := Lib.hid hJ6; have HK6 := Lib.hid hk6
                        clear hJ6 hk6
                        go_wp2_with fail
                        go_roundw
                        case rel => exact ⟨m + 1, hm1, by rw [HMK.out]; rfl, by rw [HPN.out, ← HPE.out]; exact HJ6.out, HK6.out⟩
                        case measure => simp [intOf]; omega
                      · go_wp2_with fail
                        gi_wp2
                        exact bodyPost_ret (results_tmp rfl _ _ _) rfl (.inr ⟨rfl, _, hp6, hx6⟩)
                  · have hqa : decide (((k : Int) + 1) < s.length) = false := decide_eq_false (by omega)
                    have hsw : swapB s k = false := by unfold swapB; rw [decide_eq_false hq1]; rfl
                    have HPE : Hid (p0 ++ stepL s left frm k done = p1) := Lib.hid (by rw [← HPc.out, hsw]; simp)
                    clear hsw hq1
                    go_wp2_with fail
                    go_quiet (fail)
                    go_wp2_with fail
                    go_roundw
                    case rel => exact ⟨m + 1, hm1, by rw [HMK.out]; rfl, by rw [HPN.out, HPE.out]; exact hJJ.out _ _ _ HJc.out, HSc.out.trans (SameOn.drewN _ _ _)⟩
                    case measure => simp [intOf]; omega
                · go_wp2_with fail
                  gi_wp2
                  exact bodyPost_ret (results_tmp rfl _ _ _) rfl (.inr ⟨rfl, _, hp5, hx5⟩)
              · go_wp2_with fail
                gi_wp2
                exact bodyPost_ret (results_tmp rfl _ _ _) rfl (.inr ⟨rfl, _, hp4, hx4⟩)
            · have hkf : ((k : Int) == (frm : Int)) = false := by have := HK.out; simp; omega
              have hm0 := hm0.resolve_left hm1'
              have hk1 : 1 ≤ k := by have := HK.out; omega
              have hib := bidx_run s (k - 1) (by omega) ((k : Int) - 1) (by omega)
              obtain ⟨cb, ecb⟩ : ∃ cb : Nat, (s.getD (k - 1) 0).toNat = cb := ⟨_, rfl⟩
              rw [ecb] at hib
              have hfn : ((ca : Int) != (cb : Int)) = true := by
                simp; intro h; apply hm0; apply UInt8.toNat_inj.1; rw [ecb, HCA.out]; omega
              clear hm0 hm1' ecb hk1
              go_wp2_with fail
              go_quiet (fail)
              go_wp2_with fail
              have H1 := fun q => HC.out (k + 1) (done ++ cutL s frm k) p0 wr ((k : Int) + 1) left q HK1.out HD1.out HP1.out HJm.out HBm.out (by omega) rfl
              simp only [B_add] at H1
              refine (H1 _).mono ?_
              clear H1
              rintro e W4 (⟨rfl, hJ4, hk4⟩ | ⟨rfl, pre', hp4, hx4⟩)
              · have HJ4 := Lib.hid hJ4; have HK4 := Lib.hid hk4
                have hB4 := hBB.out.keep hk4
                clear hJ4 hk4 hBx hcs hcw
                have hcs4 := hB4.s
                have hcw4 := hB4.w
                clear hB4
                go_wp2_with fail
                refine wp_still_tail1 20 (by kernel_rfl) (by kernel_rfl) ?_
                simp only [List.take_succ_cons, List.take_zero, List.drop_succ_cons, List.drop_zero]
                have wk1 := HW1.out; have wk2 := HW2.out; have wk3 := HW3.out
                iterate 20 still_step
                clear wk1 wk2 wk3
                refine wpStill_nil ?_
                go_wp2_with fail
                have H2 := fun q => HC.out (k + 1) (done ++ cutL s frm k ++ cutL s k (k + 1) ++ cutL s k (k + 1)) (p0 ++ walkL s left (k + 1) (done ++ cutL s frm k)) W4 ((k : Int) + 1) left q HK1.out HD2.out HP2.out HJ4.out HK4.out (by omega) rfl
                simp only [B_add] at H2
                refine (H2 _).mono ?_
                clear H2
                rintro e W5 (⟨rfl, hJ5, hk5⟩ | ⟨rfl, pre', hp5, hx5⟩)
                · have hB5 := hBB.out.keep hk5
                  clear hcs4 hcw4
                  have hcs5 := hB5.s
                  have hcw5 := hB5.w
                  clear hB5
                  obtain ⟨p1, hp1⟩ : ∃ p1, p0 ++ walkL s left (k + 1) (done ++ cutL s frm k) ++ walkL s left (k + 1) (done ++ cutL s frm k ++ cutL s k (k + 1) ++ cutL s k (k + 1)) = p1 := ⟨_, rfl⟩
                  have HJc : Hid (J p1 W5) := Lib.hid (by rw [← hp1]; exact hJ5)
                  have HSc := Lib.hid hk5
                  have HPc : Hid (p1 ++ (if swapB s k then walkL s left (k + 2) (done ++ cutL s frm k ++ cutL s (k + 1) (k + 2) ++ cutL s k (k + 1)) else []) = p0 ++ stepL s left frm k done) := Lib.hid (by rw [← hp1]; exact HF.out)
                  clear hJ5 hk5 hp1
                  by_cases hq1 : k + 1 < s.length
                  · have hqa : ((k : Int) + 1) < s.length := by omega
                    have hic := bidx_run s (k + 1) hq1 ((k : Int) + 1) (by omega)
                    obtain ⟨cc, ecc⟩ : ∃ cc : Nat, (s.getD (k + 1) 0).toNat = cc := ⟨_, rfl⟩
                    rw [ecc] at hic
                    by_cases hq2 : ca = cc
                    · subst hq2
                      have hsw : swapB s k = false := by
                        have := HCA.out.trans ecc.symm
                        unfold swapB; rw [UInt8.toNat_inj.1 this]; simp
                      have HPE : Hid (p0 ++ stepL s left frm k done = p1) := Lib.hid (by rw [← HPc.out, hsw]; simp)
                      clear hsw ecc hq1
                      go_wp2_with fail
                      go_quiet (fail)
                      go_wp2_with fail
                      go_roundw
                      case rel => exact ⟨m + 1, hm1, by rw [HMK.out]; rfl, by rw [HPN.out, HPE.out]; exact hJJ.out _ _ _ HJc.out, HSc.out.trans (SameOn.drewN _ _ _)⟩
                      case measure => simp [intOf]; omega
                    · have hsw : swapB s k = true := by
                        unfold swapB; rw [decide_eq_true hq1, Bool.true_and]; exact bne_iff_ne.2 (fun h => hq2 (by rw [← HCA.out, h, ecc]))
                      have hqn : ((ca : Int) != (cc : Int)) = true := by simp; omega
                      have HPE : Hid (p1 ++ walkL s left (k + 2) (done ++ cutL s frm k ++ cutL s (k + 1) (k + 2) ++ cutL s k (k + 1)) = p0 ++ stepL s left frm k done) := Lib.hid (by rw [← HPc.out, hsw]; simp)
                      have hcut3 : ∀ W', (Instr.slice 9 (.string (B s)) (some (.int .i64 ((k : Int) + 1))) (some (.int .i64 ((k : Int) + 2))) none).run Tryz.prog W' = .ok (.string (B (cutL s (k + 1) (k + 2)))) W' := fun W' =>
                        sslice_run W' s _ (k + 1) (k + 2) (by omega) (by omega) (cutL_extract s (k + 1) (k + 2) (by omega)) _ _ (by omega) (by omega)
                      have hcl3 := cutL_length s (k + 1) (k + 2)
                      have hadd3 : ¬ 9223372036854775807 < done.length + (cutL s frm k).length + (cutL s (k + 1) (k + 2)).length := by omega
                      have hadd4 : ¬ 9223372036854775807 < done.length + (cutL s frm k).length + (cutL s (k + 1) (k + 2)).length + (cutL s k (k + 1)).length := by omega
                      have HDL : Hid ((done ++ cutL s frm k ++ cutL s (k + 1) (k + 2) ++ cutL s k (k + 1)).length ≤ done.length + 200) := Lib.hid (by simp only [List.length_append]; omega)
                      have HK2 : Hid (k + 2 ≤ s.length) := Lib.hid (by omega)
                      clear hsw ecc hq2 hq1
                      go_wp2_with fail
                      refine wp_still_tail1 35 (by kernel_rfl) (by kernel_rfl) ?_
                      simp only [List.take_succ_cons, List.take_zero, List.drop_succ_cons, List.drop_zero]
                      have wk1 := HW1.out; have wk2 := HW2.out; have wk3 := HW3.out
                      iterate 35 still_step
                      clear wk1 wk2 wk3
                      refine wpStill_nil ?_
                      go_wp2_with fail
                      have H3 := fun q => HC.out (k + 2) (done ++ cutL s frm k ++ cutL s (k + 1) (k + 2) ++ cutL s k (k + 1)) p1 _ ((k : Int) + 2) left q HK2.out HDL.out (by rw [HPE.out]; exact HPT.out) HJc.out HSc.out (by omega) rfl
                      simp only [B_add] at H3
                      refine (H3 _).mono ?_
                      clear H3
                      rintro e W6 (⟨rfl, hJ6, hk6⟩ | ⟨rfl, pre', hp6, hx6⟩)
                      · have HJ6 := Lib.hid hJ6; have HK6 := Lib.hid hk6
                        clear hJ6 hk6
                        go_wp2_with fail
                        go_roundw
                        case rel => exact ⟨m + 1, hm1, by rw [HMK.out]; rfl, by rw [HPN.out, ← HPE.out]; exact HJ6.out, HK6.out⟩
                        case measure => simp [intOf]; omega
                      · go_wp2_with fail
                        gi_wp2
                        exact bodyPost_ret (results_tmp rfl _ _ _) rfl (.inr ⟨rfl, _, hp6, hx6⟩)
                  · have hqa : decide (((k : Int) + 1) < s.length) = false := decide_eq_false (by omega)
                    have hsw : swapB s k = false := by unfold swapB; rw [decide_eq_false hq1]; rfl
                    have HPE : Hid (p0 ++ stepL s left frm k done = p1) := Lib.hid (by rw [← HPc.out, hsw]; simp)
                    clear hsw hq1
                    go_wp2_with fail
                    go_quiet (fail)
                    go_wp2_with fail
                    go_roundw
                    case rel => exact ⟨m + 1, hm1, by rw [HMK.out]; rfl, by rw [HPN.out, HPE.out]; exact hJJ.out _ _ _ HJc.out, HSc.out.trans (SameOn.drewN _ _ _)⟩
                    case measure => simp [intOf]; omega
                · go_wp2_with fail
                  gi_wp2
                  exact bodyPost_ret (results_tmp rfl _ _ _) rfl (.inr ⟨rfl, _, hp5, hx5⟩)
              · go_wp2_with fail
                gi_wp2
                exact bodyPost_ret (results_tmp rfl _ _ _) rfl (.inr ⟨rfl, _, hp4, hx4⟩)
          · have hmp : 1 ≤ m := by omega
            have hf0 : firstB s frm k = false := by
              have := HK.out
              unfold firstB; rw [decide_eq_false (by omega)]; simp; exact Classical.not_not.1 (fun h => hm0 (.inr h))
            have hkf : ((k : Int) == (frm : Int)) = false := by have := HK.out; simp; omega
            have hk1 : 1 ≤ k := by have := HK.out; omega
            have hib := bidx_run s (k - 1) (by omega) ((k : Int) - 1) (by omega)
            rw [show s.getD (k - 1) 0 = s.getD k 0 from (Classical.not_not.1 (fun h => hm0 (.inr h))).symm, HCA.out] at hib
            obtain ⟨p1, hp1⟩ : ∃ p1, p0 = p1 := ⟨_, rfl⟩
            have HPc : Hid (p1 ++ (if swapB s k then walkL s left (k + 2) (done ++ cutL s frm k ++ cutL s (k + 1) (k + 2) ++ cutL s k (k + 1)) else []) = p0 ++ stepL s left frm k done) := Lib.hid (by unfold stepL; rw [hf0, hp1]; simp)
            have HPP := Lib.hid hp1
            clear hm0 hf0 hp1 hk1
            go_wp2_with fail
            go_quiet (fail)
            go_wp2_with fail
            go_quiet (fail)
            have HJc : Hid (J p1 wr) := Lib.hid (by rw [← HPP.out]; exact HJm.out)
            have HSc : Hid (SameOn [Yb, Sb, Wb] W wr) := Lib.hid HBm.out
            by_cases hq1 : k + 1 < s.length
            · have hqa : ((k : Int) + 1) < s.length := by omega
              have hic := bidx_run s (k + 1) hq1 ((k : Int) + 1) (by omega)
              obtain ⟨cc, ecc⟩ : ∃ cc : Nat, (s.getD (k + 1) 0).toNat = cc := ⟨_, rfl⟩
              rw [ecc] at hic
              by_cases hq2 : ca = cc
              · subst hq2
                have hsw : swapB s k = false := by
                  have := HCA.out.trans ecc.symm
                  unfold swapB; rw [UInt8.toNat_inj.1 this]; simp
                have HPE : Hid (p0 ++ stepL s left frm k done = p1) := Lib.hid (by rw [← HPc.out, hsw]; simp)
                clear hsw ecc hq1
                go_wp2_with fail
                go_quiet (fail)
                go_wp2_with fail
                go_roundw
                case rel => exact ⟨m + 1, hm1, by rw [HMK.out]; rfl, by rw [HPN.out, HPE.out]; exact hJJ.out _ _ _ HJc.out, HSc.out.trans (SameOn.drewN _ _ _)⟩
                case measure => simp [intOf]; omega
              · have hsw : swapB s k = true := by
                  unfold swapB; rw [decide_eq_true hq1, Bool.true_and]; exact bne_iff_ne.2 (fun h => hq2 (by rw [← HCA.out, h, ecc]))
                have hqn : ((ca : Int) != (cc : Int)) = true := by simp; omega
                have HPE : Hid (p1 ++ walkL s left (k + 2) (done ++ cutL s frm k ++ cutL s (k + 1) (k + 2) ++ cutL s k (k + 1)) = p0 ++ stepL s left frm k done) := Lib.hid (by rw [← HPc.out, hsw]; simp)
                have hcut3 : ∀ W', (Instr.slice 9 (.string (B s)) (some (.int .i64 ((k : Int) + 1))) (some (.int .i64 ((k : Int) + 2))) none).run Tryz.prog W' = .ok (.string (B (cutL s (k + 1) (k + 2)))) W' := fun W' =>
                  sslice_run W' s _ (k + 1) (k + 2) (by omega) (by omega) (cutL_extract s (k + 1) (k + 2) (by omega)) _ _ (by omega) (by omega)
                have hcl3 := cutL_length s (k + 1) (k + 2)
                have hadd3 : ¬ 9223372036854775807 < done.length + (cutL s frm k).length + (cutL s (k + 1) (k + 2)).length := by omega
                have hadd4 : ¬ 9223372036854775807 < done.length + (cutL s frm k).length + (cutL s (k + 1) (k + 2)).length + (cutL s k (k + 1)).length := by omega
                have HDL : Hid ((done ++ cutL s frm k ++ cutL s (k + 1) (k + 2) ++ cutL s k (k + 1)).length ≤ done.length + 200) := Lib.hid (by simp only [List.length_append]; omega)
                have HK2 : Hid (k + 2 ≤ s.length) := Lib.hid (by omega)
                clear hsw ecc hq2 hq1
                go_wp2_with fail
                refine wp_still_tail1 35 (by kernel_rfl) (by kernel_rfl) ?_
                simp only [List.take_succ_cons, List.take_zero, List.drop_succ_cons, List.drop_zero]
                have wk1 := HW1.out; have wk2 := HW2.out; have wk3 := HW3.out
                iterate 35 still_step
                clear wk1 wk2 wk3
                refine wpStill_nil ?_
                go_wp2_with fail
                have H3 := fun q => HC.out (k + 2) (done ++ cutL s frm k ++ cutL s (k + 1) (k + 2) ++ cutL s k (k + 1)) p1 _ ((k : Int) + 2) left q HK2.out HDL.out (by rw [HPE.out]; exact HPT.out) HJc.out HSc.out (by omega) rfl
                simp only [B_add] at H3
                refine (H3 _).mono ?_
                clear H3
                rintro e W6 (⟨rfl, hJ6, hk6⟩ | ⟨rfl, pre', hp6, hx6⟩)
                · have HJ6 := Lib.hid hJ6; have HK6 := Lib.hid hk6
                  clear hJ6 hk6
                  go_wp2_with fail
                  go_roundw
                  case rel => exact ⟨m + 1, hm1, by rw [HMK.out]; rfl, by rw [HPN.out, ← HPE.out]; exact HJ6.out, HK6.out⟩
                  case measure => simp [intOf]; omega
                · go_wp2_with fail
                  gi_wp2
                  exact bodyPost_ret (results_tmp rfl _ _ _) rfl (.inr ⟨rfl, _, hp6, hx6⟩)
            · have hqa : decide (((k : Int) + 1) < s.length) = false := decide_eq_false (by omega)
              have hsw : swapB s k = false := by unfold swapB; rw [decide_eq_false hq1]; rfl
              have HPE : Hid (p0 ++ stepL s left frm k done = p1) := Lib.hid (by rw [← HPc.out, hsw]; simp)
              clear hsw hq1
              go_wp2_with fail
              go_quiet (fail)
              go_wp2_with fail
              go_roundw
              case rel => exact ⟨m + 1, hm1, by rw [HMK.out]; rfl, by rw [HPN.out, HPE.out]; exact hJJ.out _ _ _ HJc.out, HSc.out.trans (SameOn.drewN _ _ _)⟩
              case measure => simp [intOf]; omega
        · obtain rfl : m = s.length - frm := by omega
          have hend : decide (((frm + (s.length - frm) : Nat) : Int) < (s.length : Int)) = false := decide_eq_false (by omega)
          have hq : ¬ (((frm + (s.length - frm) : Nat) : Int) < (s.length : Int)) := by omega
          go_wp2_with fail
          gi_wp2
          exact bodyPost_ret (results_tmp rfl _ _ _) rfl (.inl ⟨rfl, hJm, hBm⟩)
    · gi_wp2
      exact bodyPost_ret (results_tmp rfl _ _ _) rfl (.inr ⟨rfl, _, HP0.out, hJx3⟩)
end Go.Proofs.YtjbdmlpadoiicaaGreatDoor
