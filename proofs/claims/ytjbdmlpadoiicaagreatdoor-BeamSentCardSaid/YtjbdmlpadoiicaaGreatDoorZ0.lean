/- Undoing faults, one after the other. Plain. -/
import Derived.Test.YtjbdmlpadoiicaaGreatDoorZ1
import Derived.Test.YtjbdmlpadoiicaaGreatDoorW0
set_option linter.unusedVariables false
set_option linter.unusedSimpArgs false
namespace Go.Proofs.YtjbdmlpadoiicaaGreatDoor

/-- s becomes r with k faults. -/
inductive Way : List UInt8 → List UInt8 → Nat → Prop
  | nil : Way [] [] 0
  | same {s r : List UInt8} {k : Nat} (c : UInt8) : Way s r k → Way (c :: s) (c :: r) k
  | lost {s r : List UInt8} {k : Nat} (c : UInt8) : Way s r k → Way (c :: s) r (k + 1)
  | twice {s r : List UInt8} {k : Nat} (c : UInt8) : Way s r k → Way (c :: s) (c :: c :: r) (k + 1)
  | swap {s r : List UInt8} {k : Nat} (a b : UInt8) : Way s r k → Way (a :: b :: s) (b :: a :: r) (k + 1)
/-- One fault, or none, makes r of x. -/
inductive One : List UInt8 → List UInt8 → Prop
  | refl (r : List UInt8) : One r r
  | ins (c : UInt8) (r : List UInt8) : flashB c = true → One (c :: r) r
  | dup (c : UInt8) (r : List UInt8) : One (c :: r) (c :: c :: r)
  | swp (a b : UInt8) (r : List UInt8) : One (a :: b :: r) (b :: a :: r)
  | cons {x r : List UInt8} (c : UInt8) : One x r → One (c :: x) (c :: r)
theorem Way.undo {s r : List UInt8} {k : Nat} (h : Way s r k) : ∀ j, k = j + 1 → s.all flashB = true → ∃ x, One x r ∧ Way s x j := by
  induction h with
  | nil => exact fun j hj => by cases hj
  | same c _ ih =>
    intro j hj hf
    simp only [List.all_cons, Bool.and_eq_true] at hf
    obtain ⟨x, h1, h2⟩ := ih j hj hf.2
    exact ⟨_, .cons c h1, .same c h2⟩
  | lost c h _ =>
    intro j hj hf
    obtain rfl := Nat.succ.inj hj
    simp only [List.all_cons, Bool.and_eq_true] at hf
    exact ⟨_, .ins c _ hf.1, .same c h⟩
  | twice c h _ => intro j hj _; obtain rfl := Nat.succ.inj hj; exact ⟨_, .dup c _, .same c h⟩
  | swap a b h _ => intro j hj _; obtain rfl := Nat.succ.inj hj; exact ⟨_, .swp a b _, .same a (.same b h)⟩
theorem Way.zero {s r : List UInt8} {k : Nat} (h : Way s r k) : k = 0 → s = r := by
  induction h with
  | nil => exact fun _ => rfl
  | same c _ ih => exact fun h => by rw [ih h]
  | lost => exact fun h => by cases h
  | twice => exact fun h => by cases h
  | swap => exact fun h => by cases h
theorem zdrop_getD (s : List UInt8) {i : Nat} (h : i < s.length) : s.drop i = s.getD i 0 :: s.drop (i + 1) := by
  rw [List.drop_eq_getElem_cons h, List.getD_eq_getElem?_getD, List.getElem?_eq_getElem h]; rfl
theorem Suf.way {s r : List UInt8} {i j c : Nat} (h : Suf s r i j c) : Way (s.drop i) (r.drop j) c := by
  induction h with
  | nil => rw [List.drop_length, List.drop_length]; exact .nil
  | same h1 h2 h3 _ ih => rw [zdrop_getD s h1, zdrop_getD r h2, h3]; exact .same _ ih
  | lost h1 _ ih => rw [zdrop_getD s h1]; exact .lost _ ih
  | twice h1 h2 h3 h4 _ ih => rw [zdrop_getD s h1, zdrop_getD r (by omega), zdrop_getD r h2, ← h3, ← h4]; exact .twice _ ih
  | swap h1 h2 h3 h4 _ ih => rw [zdrop_getD s (by omega), zdrop_getD s h1, zdrop_getD r (by omega), zdrop_getD r h2, h3, h4]; exact .swap _ _ ih
theorem Can.way {m : Int} {s r : List UInt8} (h : Can m s r) : ∃ k : Nat, Way s r k ∧ (k : Int) ≤ m := by
  obtain ⟨l, hl, hm⟩ := h
  exact ⟨_, by have := (hl.suf 0 .nil).way; simpa using this, hm⟩

/-- What the reference lays for one place, and for all. -/
def atU (r : List UInt8) (i : Nat) : List (List UInt8) :=
  [r.take i ++ [46] ++ r.drop i, r.take i ++ [45] ++ r.drop i, r.take i ++ [47] ++ r.drop i] ++
    ((if i + 1 < r.length ∧ r.getD i 0 = r.getD (i + 1) 0 then [r.take i ++ r.drop (i + 1)] else []) ++
      (if i + 1 < r.length then [r.take i ++ [r.getD (i + 1) 0] ++ [r.getD i 0] ++ r.drop (i + 2)] else []))
def undoneK (r : List UInt8) (n : Nat) : List (List UInt8) := r :: (List.range n).flatMap (atU r)
def undoneL (r : List UInt8) : List (List UInt8) := undoneK r (r.length + 1)
theorem undoneK_succ (r : List UInt8) (n : Nat) : undoneK r (n + 1) = undoneK r n ++ atU r n := by simp [undoneK, List.range_succ]
theorem atU_cons (c : UInt8) (r : List UInt8) (i : Nat) : atU (c :: r) (i + 1) = (atU r i).map (c :: ·) := by
  have e1 : (i + 1 + 1 < (c :: r).length) = (i + 1 < r.length) := by simp
  have e2 : (c :: r).getD (i + 1) 0 = r.getD i 0 := rfl
  have e3 : (c :: r).getD (i + 1 + 1) 0 = r.getD (i + 1) 0 := rfl
  have e4 : (c :: r).drop (i + 1 + 2) = r.drop (i + 2) := rfl
  have e5 : (c :: r).drop (i + 1 + 1) = r.drop (i + 1) := rfl
  unfold atU
  rw [e2, e3, e4, e5]
  simp only [e1, List.take_succ_cons, List.drop_succ_cons, List.cons_append, List.map_append, List.map_cons, List.nil_append]
  congr 4
  · split <;> simp
  · split <;> simp
theorem One.at {x r : List UInt8} (h : One x r) : x = r ∨ ∃ i, i ≤ r.length ∧ x ∈ atU r i := by
  induction h with
  | refl r => exact .inl rfl
  | ins c r hc =>
    refine .inr ⟨0, Nat.zero_le _, ?_⟩
    unfold flashB at hc
    simp only [Bool.or_eq_true, decide_eq_true_eq] at hc
    rcases hc with (hc | hc) | hc
    · obtain rfl : c = 46 := UInt8.toNat_inj.1 (by simpa using Int.ofNat_inj.1 hc)
      simp [atU]
    · obtain rfl : c = 45 := UInt8.toNat_inj.1 (by simpa using Int.ofNat_inj.1 hc)
      simp [atU]
    · obtain rfl : c = 47 := UInt8.toNat_inj.1 (by simpa using Int.ofNat_inj.1 hc)
      simp [atU]
  | dup c r => exact .inr ⟨0, Nat.zero_le _, by unfold atU; rw [if_pos (by simp)]; simp⟩
  | swp a b r => exact .inr ⟨0, Nat.zero_le _, by unfold atU; rw [if_pos (show 0 + 1 < (b :: a :: r).length by simp)]; simp⟩
  | cons c _ ih =>
    rcases ih with rfl | ⟨i, hi, hm⟩
    · exact .inl rfl
    · exact .inr ⟨i + 1, by simp; omega, by rw [atU_cons]; exact List.mem_map_of_mem hm⟩
theorem One.mem {x r : List UInt8} (h : One x r) : x ∈ undoneL r := by
  unfold undoneL undoneK
  rcases h.at with rfl | ⟨i, hi, hm⟩
  · simp
  · exact List.mem_cons_of_mem _ (List.mem_flatMap.2 ⟨i, List.mem_range.2 (by omega), hm⟩)
theorem atU_len {r x : List UInt8} {i : Nat} (hi : i ≤ r.length) (h : x ∈ atU r i) : x.length ≤ r.length + 1 := by
  unfold atU at h
  simp only [List.mem_append, List.mem_cons, List.not_mem_nil, or_false] at h
  rcases h with (rfl | rfl | rfl) | h | h
  · simp; omega
  · simp; omega
  · simp; omega
  · split at h
    · rw [List.mem_singleton.1 h]; simp; omega
    · cases h
  · split at h
    · rw [List.mem_singleton.1 h]; simp; omega
    · cases h
theorem undoneL_len {r x : List UInt8} (h : x ∈ undoneL r) : x.length ≤ r.length + 1 := by
  unfold undoneL undoneK at h
  rcases List.mem_cons.1 h with rfl | h
  · omega
  · obtain ⟨i, hi, hm⟩ := List.mem_flatMap.1 h
    exact atU_len (by have := List.mem_range.1 hi; omega) hm
theorem atU_card (r : List UInt8) (i : Nat) : (atU r i).length ≤ 5 := by
  unfold atU; simp only [List.length_append, List.length_cons, List.length_nil]
  split <;> split <;> simp
theorem undoneK_card (r : List UInt8) : ∀ n : Nat, (undoneK r n).length ≤ 1 + 5 * n
  | 0 => by simp [undoneK]
  | n + 1 => by
    rw [undoneK_succ, List.length_append]
    have := undoneK_card r n
    have := atU_card r n
    omega

/-- The sets of the reference: what becomes r when at most so many faults are undone. -/
def Und (r : List UInt8) : Nat → List UInt8 → Prop
  | 0, x => x = r
  | k + 1, x => ∃ y, Und r k y ∧ x ∈ undoneL y
theorem und_first {r y : List UInt8} (h : y ∈ undoneL r) : ∀ (k : Nat) {x : List UInt8}, Und y k x → Und r (k + 1) x
  | 0, x, e => ⟨r, rfl, by rw [show x = y from e]; exact h⟩
  | k + 1, x, ⟨z, hz, hx⟩ => ⟨z, und_first h k hz, hx⟩
theorem und_more {r : List UInt8} {k : Nat} {x : List UInt8} (h : Und r k x) : Und r (k + 1) x := ⟨x, h, by simp [undoneL, undoneK]⟩
theorem Way.und : ∀ (k : Nat) {s r : List UInt8}, s.all flashB = true → Way s r k → Und r k s
  | 0, s, r, _, h => h.zero rfl
  | k + 1, s, r, hf, h => by
    obtain ⟨x, h1, h2⟩ := h.undo k rfl hf
    exact und_first h1.mem k (Way.und k hf h2)
theorem und_le {r x : List UInt8} {k : Nat} (h : Und r k x) : ∀ d, Und r (k + d) x
  | 0 => h
  | d + 1 => und_more (und_le h d)
/-- Whatever can become r with at most m faults is found by undoing so many. -/
theorem Can.und {m : Nat} {s r : List UInt8} (hf : s.all flashB = true) (h : Can m s r) : Und r m s := by
  obtain ⟨k, hk, hm⟩ := h.way
  have := und_le (Way.und k hf hk) (m - k)
  rwa [show k + (m - k) = m by omega] at this
end Go.Proofs.YtjbdmlpadoiicaaGreatDoor

/-! undone of the reference: what it lays into its set. -/
namespace Go.Proofs.YtjbdmlpadoiicaaGreatDoor
open Go.RowKit Go.Shelf

theorem take_extract (s : List UInt8) (a : Nat) : (B s).extract 0 a = B (s.take a) := by
  apply ext_L
  rw [L_B, ByteArray.data_extract, Array.toList_extract, L_B, List.extract]; simp
theorem take_run (W : World) (s : List UInt8) (a : Nat) (ha : a ≤ s.length) : (Instr.slice 9 (.string (B s)) none (some (.int .i64 (a : Int))) none).run Tryz.prog W = .ok (.string (B (s.take a))) W := by
  have h1 : 0 ≤ (a : Int) ∧ (a : Int) ≤ s.length := by omega
  have h2 := take_extract s a
  simp [Instr.slice, Instr.sliceBounds, Instr.sliceBound, asIntOf, run_underlying Tryz.underlying9, h1, h2, go_sem]
  intro h; omega
theorem drop_run' (W : World) (s : List UInt8) (a : Nat) (ha : a ≤ s.length) (y : Int) (hy : y = a) : (Instr.slice 9 (.string (B s)) (some (.int .i64 y)) none none).run Tryz.prog W = .ok (.string (B (s.drop a))) W := by
  subst hy; exact drop_run W s a ha
theorem SetAt.drawn {w : World} {b : Nat} {S : List (List UInt8)} (h : SetAt w b S) (q : Nat) : (w.drewN q).ownsMap Tryz.prog 9 (plainElem (H := Unit) Tryz.prog 4) b S.length (setD S) := h
theorem grownBy_drewN (w : World) (n : Nat) (row : Option Nat) : w.grownBy (w.drewN n) row := ⟨rfl, rfl, rfl, by simp, fun k _ _ => by simp⟩

set_option maxRecDepth 100000 in
set_option maxHeartbeats 2000000 in
theorem undone_any (r : List UInt8) (hr : r.length ≤ 200) (b : Nat) (S : List (List UInt8)) (w : World) (hS : SetAt w b S) (hN : S.length + (undoneL r).length ≤ 1000000) :
    Calls Tryz.prog 41 #[.map (some b), .string (B r)] w fun e w' => e = .returned (.tuple #[]) ∧ SetAt w' b (S ++ undoneL r) ∧ w.grownBy w' (some b) := by
  have hkey : ∀ x : List UInt8, x.length ≤ 1000 → keyOf Tryz.prog 9 (.string (B x)) = some (.string x) := fun x hx => by
    have := WideMaps.keyOf_string_mk Tryz.underlying9 (s := B x) (by rw [size_B]; unfold maxLen; omega)
    rw [L_B] at this; exact this
  have hval : plainElem (H := Unit) Tryz.prog 4 (.bool true) = some (.lit (.bool true), []) := plainElem_bool Tryz.underlying4 true
  have HK := Lib.hid hkey; have HV := Lib.hid hval; have HS := Lib.hid hS; have HN := Lib.hid hN
  have hroom : S.length < maxLen := by unfold maxLen; omega
  clear hkey hval hS hN
  go_enter Tryz.func41, Tryz.ntmps41
  go_wp2_with (at_mapUpdate; refine wpList_mapUpdate_own _ rfl _ _ _ 59 rfl 9 4 lawStr Tryz.underlying59 _ b S.length (setD S) rfl HS.out hroom _ _ (.string r) rfl rfl (HK.out r (by omega)) (.lit (.bool true)) [] HV.out ?_; intro w1 hown1 hgrow1)
  have HS1 := Lib.hid (SetAt.of hown1); have HG1 := Lib.hid hgrow1
  clear hown1 hgrow1
  go_loopw [4] (fun v wr => ∃ i : Nat, i ≤ r.length + 1 ∧ v = .int .i64 i ∧ Hid (SetAt wr b (S ++ undoneK r i)) ∧ Hid (w.grownBy wr (some b))) (fun v _ => r.length + 2 - (intOf v).toNat)
  case atStart => exact ⟨0, by omega, rfl, Lib.hid (by simpa [undoneK] using HS1.out), HG1⟩
  case round =>
    obtain ⟨i, hi, rfl, hSr, hGr⟩ := hrel
    by_cases hlt : i ≤ r.length
    · have hcard : ∀ n, n ≤ i → (S ++ undoneK r n).length + 5 ≤ 1100000 := fun n hn => by
        have := undoneK_card r n
        have := HN.out
        rw [List.length_append]; omega
      have HCA := Lib.hid hcard
      have hpre := fun W => take_run W r i hlt
      have hsuf := fun W => drop_run W r i hlt
      obtain ⟨p, ep⟩ : ∃ p, r.take i = p := ⟨_, rfl⟩
      obtain ⟨q, eq⟩ : ∃ q, r.drop i = q := ⟨_, rfl⟩
      have hpl : p.length ≤ 200 := by rw [← ep, List.length_take]; omega
      have hql : q.length ≤ 200 := by rw [← eq, List.length_drop]; omega
      have HAT : Hid (atU r i = [p ++ [46] ++ q, p ++ [45] ++ q, p ++ [47] ++ q] ++ ((if i + 1 < r.length ∧ r.getD i 0 = r.getD (i + 1) 0 then [p ++ r.drop (i + 1)] else []) ++ (if i + 1 < r.length then [p ++ [r.getD (i + 1) 0] ++ [r.getD i 0] ++ r.drop (i + 2)] else []))) := Lib.hid (by unfold atU; rw [ep, eq])
      rw [ep] at hpre; rw [eq] at hsuf
      have HEP := Lib.hid ep
      have hs1 : ¬ 9223372036854775807 < p.length + 1 := by omega
      have hs2 : ¬ 9223372036854775807 < p.length + 1 + q.length := by omega
      have k1 : Hid (keyOf Tryz.prog 9 (.string (B p ++ ⟨#[46]⟩ ++ B q)) = some (.string (p ++ [46] ++ q))) := Lib.hid (by rw [← HK.out _ (by simp; omega)]; simp only [B_add]; rfl)
      have k2 : Hid (keyOf Tryz.prog 9 (.string (B p ++ ⟨#[45]⟩ ++ B q)) = some (.string (p ++ [45] ++ q))) := Lib.hid (by rw [← HK.out _ (by simp; omega)]; simp only [B_add]; rfl)
      have k3 : Hid (keyOf Tryz.prog 9 (.string (B p ++ ⟨#[47]⟩ ++ B q)) = some (.string (p ++ [47] ++ q))) := Lib.hid (by rw [← HK.out _ (by simp; omega)]; simp only [B_add]; rfl)
      have S0 := hSr; have G0 := hGr
      obtain ⟨S0', eS0⟩ : ∃ S0', S ++ undoneK r i = S0' := ⟨_, rfl⟩
      rw [eS0] at S0
      have hc0 : S0'.length + 5 ≤ 1100000 := by rw [← eS0]; exact hcard i (Nat.le_refl _)
      have HES := Lib.hid eS0
      clear ep eq eS0 hSr hcard
      go_wp2_with fail
      refine wp_still_tail1 9 (by kernel_rfl) (by kernel_rfl) ?_
      simp only [List.take_succ_cons, List.take_zero, List.drop_succ_cons, List.drop_zero]
      iterate 9 still_step
      refine wpStill_nil ?_
      refine wpList_mapUpdate_own _ rfl _ _ _ 59 rfl 9 4 lawStr Tryz.underlying59 _ b _ _ rfl (S0.out.drawn 1) (by unfold maxLen; (try simp only [List.length_append, List.length_cons, List.length_nil]); omega) _ _ (.string (p ++ [46] ++ q)) rfl rfl k1.out (.lit (.bool true)) [] HV.out ?_
      intro w2 hown hgrow
      have S1 := Lib.hid (SetAt.of hown); have G1 := Lib.hid (G0.out.trans ((grownBy_drewN _ 1 _).trans hgrow))
      clear hown hgrow
      go_wp2_with fail
      refine wp_still_tail1 9 (by kernel_rfl) (by kernel_rfl) ?_
      simp only [List.take_succ_cons, List.take_zero, List.drop_succ_cons, List.drop_zero]
      iterate 9 still_step
      refine wpStill_nil ?_
      refine wpList_mapUpdate_own _ rfl _ _ _ 59 rfl 9 4 lawStr Tryz.underlying59 _ b _ _ rfl (S1.out.drawn 1) (by unfold maxLen; (try simp only [List.length_append, List.length_cons, List.length_nil]); omega) _ _ (.string (p ++ [45] ++ q)) rfl rfl k2.out (.lit (.bool true)) [] HV.out ?_
      intro w3 hown hgrow
      have S2 := Lib.hid (SetAt.of hown); have G2 := Lib.hid (G1.out.trans ((grownBy_drewN _ 1 _).trans hgrow))
      clear hown hgrow
      go_wp2_with fail
      refine wp_still_tail1 9 (by kernel_rfl) (by kernel_rfl) ?_
      simp only [List.take_succ_cons, List.take_zero, List.drop_succ_cons, List.drop_zero]
      iterate 9 still_step
      refine wpStill_nil ?_
      refine wpList_mapUpdate_own _ rfl _ _ _ 59 rfl 9 4 lawStr Tryz.underlying59 _ b _ _ rfl (S2.out.drawn 1) (by unfold maxLen; (try simp only [List.length_append, List.length_cons, List.length_nil]); omega) _ _ (.string (p ++ [47] ++ q)) rfl rfl k3.out (.lit (.bool true)) [] HV.out ?_
      intro w4 hown hgrow
      have S3 := Lib.hid (SetAt.of hown); have G3 := Lib.hid (G2.out.trans ((grownBy_drewN _ 1 _).trans hgrow))
      clear hown hgrow
      have e5 : ∀ T, S0' ++ [p ++ [46] ++ q] ++ [p ++ [45] ++ q] ++ [p ++ [47] ++ q] ++ T = S0' ++ ([p ++ [46] ++ q, p ++ [45] ++ q, p ++ [47] ++ q] ++ T) := fun T => by simp
      have HE5 := Lib.hid e5
      obtain ⟨S3', eS3⟩ : ∃ S3', S0' ++ [p ++ [46] ++ q] ++ [p ++ [45] ++ q] ++ [p ++ [47] ++ q] = S3' := ⟨_, rfl⟩
      rw [eS3] at S3 HE5
      have hc3 : S3'.length + 2 ≤ 1100000 := by rw [← eS3]; simp only [List.length_append, List.length_cons, List.length_nil]; omega
      clear e5 eS3
      by_cases h1 : i + 1 < r.length
      · have hq1 : (i : Int) + 1 < r.length := by omega
        have hi0 := bidx_run r i (by omega) (i : Int) rfl
        have hi1 := bidx_run r (i + 1) h1 ((i : Int) + 1) (by omega)
        have hd1 := fun W => drop_run' W r (i + 1) (by omega) ((i : Int) + 1) (by omega)
        have hd2 := fun W => drop_run' W r (i + 2) (by omega) ((i : Int) + 2) (by omega)
        have hcA := fun W => sslice_run W r [r.getD (i + 1) 0] (i + 1) (i + 2) (by omega) (by omega) (cut1 r (i + 1) h1) ((i : Int) + 1) ((i : Int) + 2) (by omega) (by omega)
        have hcB := fun W => sslice_run W r [r.getD i 0] i (i + 1) (by omega) (by omega) (cut1 r i (by omega)) (i : Int) ((i : Int) + 1) rfl (by omega)
        obtain ⟨ca, eca⟩ : ∃ ca : UInt8, r.getD i 0 = ca := ⟨_, rfl⟩
        obtain ⟨cb, ecb⟩ : ∃ cb : UInt8, r.getD (i + 1) 0 = cb := ⟨_, rfl⟩
        obtain ⟨d1, ed1⟩ : ∃ d1, r.drop (i + 1) = d1 := ⟨_, rfl⟩
        obtain ⟨d2, ed2⟩ : ∃ d2, r.drop (i + 2) = d2 := ⟨_, rfl⟩
        have hd1l : d1.length ≤ 200 := by rw [← ed1, List.length_drop]; omega
        have hd2l : d2.length ≤ 200 := by rw [← ed2, List.length_drop]; omega
        rw [eca] at hi0 hcB; rw [ecb] at hi1 hcA; rw [ed1] at hd1; rw [ed2] at hd2
        rw [eca, ecb, ed1, ed2] at HAT
        have k4 : Hid (keyOf Tryz.prog 9 (.string (B p ++ B d1)) = some (.string (p ++ d1))) := Lib.hid (by rw [← HK.out _ (by simp; omega)]; simp only [B_add])
        have k5 : Hid (keyOf Tryz.prog 9 (.string (B p ++ B [cb] ++ B [ca] ++ B d2)) = some (.string (p ++ [cb] ++ [ca] ++ d2))) := Lib.hid (by rw [← HK.out _ (by simp; omega)]; simp only [B_add])
        have hs3 : ¬ 9223372036854775807 < p.length + d1.length := by omega
        have hs4 : ¬ 9223372036854775807 < p.length + 1 + 1 := by omega
        have hs5 : ¬ 9223372036854775807 < p.length + 1 + 1 + d2.length := by omega
        have wk1 : IntKind.i64.wrap ((i : Int) + 1) = (i : Int) + 1 := IntWalk.i64_in _ (by omega)
        have wk2 : IntKind.i64.wrap ((i : Int) + 2) = (i : Int) + 2 := IntWalk.i64_in _ (by omega)
        have HW1 := Lib.hid wk1; have HW2 := Lib.hid wk2
        have H1 := Lib.hid h1
        clear eca ecb ed1 ed2 wk1 wk2
        by_cases h2 : ca = cb
        · have hqe : ((ca.toNat : Int) == (cb.toNat : Int)) = true := by rw [h2]; simp
          have HAT2 : Hid (atU r i = [p ++ [46] ++ q, p ++ [45] ++ q, p ++ [47] ++ q] ++ ([p ++ d1] ++ [p ++ [cb] ++ [ca] ++ d2])) := Lib.hid (by rw [HAT.out, if_pos ⟨h1, h2⟩, if_pos h1])
          clear h1 h2 HAT
          go_wp2_with fail
          simp only [Act.put]
          go_quiet (fail)
          go_wp2_with fail
          have S4 : Hid (SetAt (w4.drewN nq) b S3') := Lib.hid (S3.out.drawn nq)
          have G4 := Lib.hid (G3.out.trans (grownBy_drewN w4 nq (some b)))
          refine wp_still_tail1 9 (by kernel_rfl) (by kernel_rfl) ?_
          simp only [List.take_succ_cons, List.take_zero, List.drop_succ_cons, List.drop_zero]
          have wk1 := HW1.out; have wk2 := HW2.out
          iterate 9 still_step
          clear wk1 wk2
          refine wpStill_nil ?_
          refine wpList_mapUpdate_own _ rfl _ _ _ 59 rfl 9 4 lawStr Tryz.underlying59 _ b _ _ rfl (S4.out.drawn 1) (by unfold maxLen; (try simp only [List.length_append, List.length_cons, List.length_nil]); omega) _ _ (.string (p ++ d1)) rfl rfl k4.out (.lit (.bool true)) [] HV.out ?_
          intro w5 hown hgrow
          have S5 := Lib.hid (SetAt.of hown); have G5 := Lib.hid (G4.out.trans ((grownBy_drewN _ 1 _).trans hgrow))
          clear hown hgrow
          go_wp2_with fail
          refine wp_still_tail1 22 (by kernel_rfl) (by kernel_rfl) ?_
          simp only [List.take_succ_cons, List.take_zero, List.drop_succ_cons, List.drop_zero]
          have wk1 := HW1.out; have wk2 := HW2.out
          iterate 22 still_step
          clear wk1 wk2
          refine wpStill_nil ?_
          refine wpList_mapUpdate_own _ rfl _ _ _ 59 rfl 9 4 lawStr Tryz.underlying59 _ b _ _ rfl (S5.out.drawn 1) (by unfold maxLen; (try simp only [List.length_append, List.length_cons, List.length_nil]); omega) _ _ (.string (p ++ [cb] ++ [ca] ++ d2)) rfl rfl k5.out (.lit (.bool true)) [] HV.out ?_
          intro w6 hown hgrow
          have S6 := Lib.hid (SetAt.of hown); have G6 := Lib.hid (G5.out.trans ((grownBy_drewN _ 1 _).trans hgrow))
          clear hown hgrow
          go_wp2_with fail
          go_roundw
          case rel => exact ⟨i + 1, by omega, by go_num, Lib.hid (by
            have := S6.out
            rw [undoneK_succ, HAT2.out, ← List.append_assoc, HES.out, ← HE5.out]
            simpa only [List.append_assoc] using this), G6⟩
          case measure => simp [intOf]; omega
        · have hqe : ((ca.toNat : Int) == (cb.toNat : Int)) = false := by
            simp only [beq_eq_false_iff_ne]; intro e; exact h2 (UInt8.toNat_inj.1 (Int.ofNat_inj.1 e))
          have HAT2 : Hid (atU r i = [p ++ [46] ++ q, p ++ [45] ++ q, p ++ [47] ++ q] ++ [p ++ [cb] ++ [ca] ++ d2]) := Lib.hid (by rw [HAT.out, if_neg (fun h => h2 h.2), if_pos h1]; rfl)
          clear h1 h2 HAT
          go_wp2_with fail
          simp only [Act.put]
          go_quiet (fail)
          go_wp2_with fail
          have S4 : Hid (SetAt (w4.drewN nq) b S3') := Lib.hid (S3.out.drawn nq)
          have G4 := Lib.hid (G3.out.trans (grownBy_drewN w4 nq (some b)))
          refine wp_still_tail1 22 (by kernel_rfl) (by kernel_rfl) ?_
          simp only [List.take_succ_cons, List.take_zero, List.drop_succ_cons, List.drop_zero]
          have wk1 := HW1.out; have wk2 := HW2.out
          iterate 22 still_step
          clear wk1 wk2
          refine wpStill_nil ?_
          refine wpList_mapUpdate_own _ rfl _ _ _ 59 rfl 9 4 lawStr Tryz.underlying59 _ b _ _ rfl (S4.out.drawn 1) (by unfold maxLen; (try simp only [List.length_append, List.length_cons, List.length_nil]); omega) _ _ (.string (p ++ [cb] ++ [ca] ++ d2)) rfl rfl k5.out (.lit (.bool true)) [] HV.out ?_
          intro w6 hown hgrow
          have S6 := Lib.hid (SetAt.of hown); have G6 := Lib.hid (G4.out.trans ((grownBy_drewN _ 1 _).trans hgrow))
          clear hown hgrow
          go_wp2_with fail
          go_roundw
          case rel => exact ⟨i + 1, by omega, by go_num, Lib.hid (by
            have := S6.out
            rw [undoneK_succ, HAT2.out, ← List.append_assoc, HES.out, ← HE5.out]
            exact this), G6⟩
          case measure => simp [intOf]; omega
      · have hq1 : decide ((i : Int) + 1 < r.length) = false := decide_eq_false (by omega)
        have HAT2 : Hid (atU r i = [p ++ [46] ++ q, p ++ [45] ++ q, p ++ [47] ++ q] ++ []) := Lib.hid (by rw [HAT.out, if_neg (fun h => h1 h.1), if_neg h1]; rfl)
        clear h1 HAT
        go_wp2_with fail
        simp only [Act.put]
        go_quiet (fail)
        go_wp2_with fail
        go_roundw
        case rel => exact ⟨i + 1, by omega, by go_num, Lib.hid (by
          have : SetAt (w4.drewN nq) b S3' := S3.out.drawn nq
          rw [undoneK_succ, HAT2.out, ← List.append_assoc, HES.out, ← HE5.out, List.append_nil]
          exact this), Lib.hid (G3.out.trans (grownBy_drewN w4 nq (some b)))⟩
        case measure => simp [intOf]; omega
    · obtain rfl : i = r.length + 1 := by omega
      go_wp2_with fail
      (try simp only [Exit.inBlock, Exit.then])
      refine bodyPost_end (results_none rfl _ _ _) rfl ?_
      exact ⟨rfl, hSr.out, hGr.out⟩
end Go.Proofs.YtjbdmlpadoiicaaGreatDoor
