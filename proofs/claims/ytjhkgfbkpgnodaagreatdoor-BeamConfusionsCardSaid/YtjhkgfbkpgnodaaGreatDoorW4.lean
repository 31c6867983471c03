/- The reference's sorted: the strings of a set in order. -/
import Derived.Test.YtjhkgfbkpgnodaaGreatDoorW1
import Derived.Test.YtjhkgfbkpgnodaaGreatDoorW3
namespace Go.Proofs.YtjhkgfbkpgnodaaGreatDoor
open Go.RowKit Go.Shelf

theorem litKey (x : List UInt8) : WideAt.IsKeyLit (Lit.string x) := trivial
theorem has_set (S : List (List UInt8)) (x : List UInt8) : Maps.has (setD S) (.string x) = true ↔ x ∈ S := by
  unfold setD
  rw [Maps.has_setOf _ _ _ (fun z hz => by obtain ⟨y, _, rfl⟩ := List.mem_map.1 hz; exact litKey y), List.any_eq_true]
  constructor
  · rintro ⟨z, hz, hk⟩
    obtain ⟨y, hy, rfl⟩ := List.mem_map.1 hz
    have := WideAt.sameKey_eq hk
    cases this; exact hy
  · intro h
    exact ⟨_, List.mem_map.2 ⟨x, h, rfl⟩, WideAt.sameKey_self (litKey x)⟩
/-- One step of a range over such a set. -/
theorem wpList_next_set (w : World) {ops : Array Oper} {rest : List Oper} {o : Oper} {a : Act} {Q : Exit → Act → World → Prop}
    (hg : o.guard = none) (it : Operand) (hop : o.op = Op.next it false) (b r n : Nat) (D : DataW Unit) (left : Lit → Bool) (cnt : Nat)
    (hit : a.eval it = .pointer (some ⟨r, 0, none⟩)) (h : w.ranges Tryz.prog 9 (plainElem (H := Unit) Tryz.prog 4) b r n D left cnt)
    (hDone : cnt = 0 → (∀ kl, left kl = false) → wpList Tryz.prog ops Q rest (a.put o.dst (.tuple #[.bool false])) w)
    (hMore : ∀ (x : List UInt8) (cv : Value) (w' : World) (cnt' : Nat), left (.string x) = true → w'.ranges Tryz.prog 9 (plainElem (H := Unit) Tryz.prog 4) b r n D (fun z => left z && !z.sameKey (.string x)) cnt' → cnt' < cnt →
      w.grownBy w' (some r) → w'.heap.size = w.heap.size → (Instr.entry (.pointer (some ⟨r, 0, none⟩))).run Tryz.prog w' = .ok (.tuple #[.string (B x), cv]) w' → wpList Tryz.prog ops Q rest (a.put o.dst (.tuple #[.bool true, .string (B x), cv])) w') :
    wpList Tryz.prog ops Q (o :: rest) a w :=
  wpList_next_ranges w hg it hop 9 lawStr (plainElem (H := Unit) Tryz.prog 4) (fun x : List UInt8 => Value.string (B x)) (fun v : Value => v)
    (fun key kl hk => by obtain ⟨x, rfl, _⟩ := WideMaps.string_of_keyOf Tryz.underlying9 hk; exact ⟨x.data.toList, by rw [B_L]⟩) (fun v y hv => ⟨v, rfl⟩) b r n D left cnt hit h hDone
    (fun x cv kl y w' cnt' hk hlk hv hat hrg hlt hgr hsz hen => by
      obtain ⟨x', ex, rfl, _⟩ := WideMaps.string_of_keyOf Tryz.underlying9 hk
      cases ex
      rw [L_B] at hlk hrg
      exact hMore x cv w' cnt' hlk hrg hlt hgr hsz hen)
/-- What has come so far: each string once. -/
def Come (S : List (List UInt8)) (left : Lit → Bool) (zs : List (List UInt8)) : Prop := zs.Nodup ∧ (∀ x, x ∈ zs ↔ x ∈ S ∧ left (.string x) = false) ∧ ∀ x, left (.string x) = true → x ∈ S
theorem Come.start (S : List (List UInt8)) : Come S (Maps.has (setD S)) [] :=
  ⟨List.nodup_nil, fun x => ⟨fun h => by simp at h, fun ⟨h1, h2⟩ => by rw [(has_set S x).2 h1] at h2; cases h2⟩, fun x h => (has_set S x).1 h⟩
theorem Come.step {S : List (List UInt8)} {left : Lit → Bool} {zs : List (List UInt8)} {y : List UInt8} (h : Come S left zs) (hy : left (.string y) = true) : Come S (fun z => left z && !z.sameKey (.string y)) (zs ++ [y]) := by
  obtain ⟨h1, h2, h3⟩ := h
  have hn : y ∉ zs := fun hm => by rw [((h2 y).1 hm).2] at hy; cases hy
  refine ⟨List.nodup_append.2 ⟨h1, by simp, fun a ha b hb e => ?_⟩, fun x => ?_, fun x hx => ?_⟩
  · rw [List.mem_singleton.1 hb] at e
    rw [e] at ha; exact hn ha
  · by_cases e : x = y
    · subst e
      simp only [List.mem_append, List.mem_singleton, or_true, true_iff, WideAt.sameKey_self (litKey x), Bool.not_true, Bool.and_false, and_true]
      exact h3 x hy
    · have : (Lit.string x).sameKey (.string y) = false := Maps.sameKey_ne (fun k => e (by cases k; rfl))
      simp only [List.mem_append, List.mem_singleton, e, or_false, this, Bool.not_false, Bool.and_true]
      exact h2 x
  · simp only [Bool.and_eq_true] at hx
    exact h3 x hx.1
theorem Come.fin {S : List (List UInt8)} {left : Lit → Bool} {zs : List (List UInt8)} (h : Come S left zs) (hl : ∀ kl, left kl = false) : ∀ x, x ∈ zs ↔ x ∈ S := fun x => (h.2.1 x).trans ⟨fun k => k.1, fun k => ⟨k, hl _⟩⟩
theorem row_far {w : World} {base n r : Nat} {e : TypeId} {v : Value} {xs : List Value} (h : w.ownsRow base e 1 v n xs) (hr : r < base) : v.ownBlock = none ∨ v.ownBlock ≠ some r := by
  rcases h.2 with ⟨rfl, _⟩ | ⟨g, cap, cur, rfl, hg, _⟩
  · left; rfl
  · right; simp [Value.ownBlock]; omega
theorem row_far' {w : World} {base n r : Nat} {e : TypeId} {v : Value} {xs : List Value} (h : w.ownsRow base e 1 v n xs) (hr : r < base) : some r ≠ v.ownBlock := by
  rcases row_far h hr with k | k
  · rw [k]; simp
  · exact Ne.symm k
theorem row_high {w : World} {base n : Nat} {e : TypeId} {v : Value} {xs : List Value} (h : w.ownsRow base e 1 v n xs) (k : Nat) (hk : v.ownBlock = some k) : base ≤ k := by
  rcases h.2 with ⟨rfl, _⟩ | ⟨g, cap, cur, rfl, hg, _⟩
  · simp [Value.ownBlock] at hk
  · simp [Value.ownBlock] at hk; omega
theorem strict_of {ys zs : List (List UInt8)} (hs : ys.Pairwise (· ≤ ·)) (hp : ys.Perm zs) (hn : zs.Nodup) : Strict ys := by
  have hn' : ys.Nodup := hp.nodup_iff.2 hn
  unfold Strict
  exact (hs.and hn').imp (fun h => lt_of_le_ne h.1 h.2)

set_option maxRecDepth 100000 in
set_option maxHeartbeats 2000000 in
theorem sorted_any (b : Nat) (S : List (List UInt8)) (hS0 : S ≠ []) (hSl : S.length ≤ 1000000) (w : World) (hS : SetAt w b S) :
    Calls Tryz.prog 43 #[.map (some b)] w fun e w' => ∃ v ys, e = .returned v ∧ TRow w' v ys ∧ Strict ys ∧ (∀ x, x ∈ ys ↔ x ∈ S) ∧ ys.length ≤ 1000000 ∧ Below w.heap.size w w' := by
  obtain ⟨i0, hi, hz0, hz1, hz2⟩ := info_parts info_str
  have hown : w.ownsMap Tryz.prog 9 (plainElem (H := Unit) Tryz.prog 4) b S.length (setD S) := hS
  have hbw : b < w.heap.size := hown.lt
  have hsz := hown.size_le
  clear hS
  go_enter Tryz.func43, Tryz.ntmps43
  go_wp2_with (first
    | (at_range; refine wpList_range_own _ rfl _ 59 rfl 9 4 lawStr Tryz.underlying59 _ b S.length _ rfl hown ?_; intro w0 hrg0 hg0 hs0)
    | go_in)
  go_frame
  have hb0 : Below w.heap.size w w0 := (Below.refl _ _).grown hg0 (Nat.le_refl _) (fun k e => by cases e)
  go_loopw [3] (fun v wr => ∃ (left : Lit → Bool) (cnt : Nat) (zs : List (List UInt8)), wr.ranges Tryz.prog 9 (plainElem (H := Unit) Tryz.prog 4) b w.heap.size S.length (setD S) left cnt ∧
      wr.ownsRow (w.heap.size + 1) 9 1 v zs.length (zs.map encStr) ∧ Hid (Come S left zs) ∧ zs.length + cnt ≤ S.length ∧ Hid (w.heap.size + 1 ≤ wr.heap.size) ∧ Hid (Below w.heap.size w wr))
    (fun _ wr => wr.rangeLeft b w.heap.size)
  case atStart => exact ⟨_, _, [], hrg0, World.ownsRow_nil _ _ _ _, Lib.hid (Come.start S), by simpa using hsz, Lib.hid (by omega), Lib.hid hb0⟩
  case round =>
    obtain ⟨left, cnt, zs, hrg, hrow, hC, hlen, hsw, hB⟩ := hrel
    go_wp2_with (first
      | (at_next; refine wpList_next_set _ rfl _ rfl b w.heap.size S.length _ _ _ rfl hrg ?_ ?_)
      | go_in)
    · intro hc0 hl0
      have hfin := hC.out.fin hl0
      have hne : zs ≠ [] := by
        obtain ⟨x, hx⟩ := List.exists_mem_of_ne_nil S hS0
        intro e
        have := (hfin x).2 hx
        rw [e] at this; simp at this
      have hzl : zs.length ≤ 1000000 := by omega
      have hT : TRow wr u3 zs := by
        rcases hrow.2 with ⟨_, h0⟩ | ⟨g, cap, cur, hv, _⟩
        · exact absurd (List.eq_nil_of_length_eq_zero h0) hne
        · rw [hv] at hrow ⊢; exact TRow.of_owned hrow
      have HCO := Lib.hid hfin
      have HTT := Lib.hid hT
      clear hfin hrg hrow hT hl0
      go_wp2_with fail
      refine (merged_any zs.length zs _ wr (Nat.le_refl _) hne hzl HTT.out).mono ?_
      rintro e w2 ⟨v', ys, rfl, hT2, hs2, hp2, hb2⟩
      have HT2 := Lib.hid hT2; have HS2 := Lib.hid hs2; have HP2 := Lib.hid hp2; have HB2 := Lib.hid hb2
      clear hT2 hs2 hp2 hb2
      go_wp2_with fail
      go_ret
      exact ⟨_, ys, rfl, HT2.out, strict_of HS2.out HP2.out hC.out.1, fun x => HP2.out.mem_iff.trans (HCO.out x), by rw [HP2.out.length_eq]; exact hzl, hB.out.trans (HB2.out.mono hB.out.size)⟩
    · intro x cv w1 cnt1 hlk hrg1 hlt hg1 hs1 hen
      have hm0 : wr.rangeLeft b w.heap.size = cnt := hrg.left_eq
      have hrow1 := hrow.kept hg1 (row_far hrow (by omega))
      have HB1 := Lib.hid (hB.out.grown hg1 hB.out.size (fun k e => by cases e; exact Nat.le_refl _))
      have hsw1 : w.heap.size + 1 ≤ w1.heap.size := by rw [hs1]; exact hsw.out
      have HC1 := Lib.hid (hC.out.step hlk)
      have HRG1 := Lib.hid hrg1
      have HS1 := Lib.hid hs1
      have h63 : zs.length + 1 ≤ maxLen := by unfold maxLen; omega
      have hbytes : (zs.length + 1) * 16 ≤ 140737488355328 := by omega
      have hlen1 : zs.length + 1 + cnt1 ≤ S.length := by omega
      have HM0 := Lib.hid hm0
      clear hrg hrow hrg1 hg1 hC hB hsw hs1 hlk hm0
      go_wp2_with (at_builtin; refine wpList_append_own _ rfl _ _ 41 rfl (w.heap.size + 1) 9 i0 (.string ⟨#[]⟩) 1 16 Tryz.underlying41 hi hz0 hz1 hz2 rfl (by decide) _ _ _ rfl (hrow1.alloc _) ⟨w1.heap.size, 0, none⟩ 1 1 [.string (B x)] rfl rfl (cell_one_new _ _ _) (by simp [Value.oneCell']) h63 hbytes (by simp; omega) ?_; intro v' w2 hown' hgrow _)
      have hrg2 := (HRG1.out.alloc _).kept hgrow (row_far' hrow1 (by omega)) (row_far' hrow1 (by omega))
      have hsz2 : w.heap.size + 1 ≤ w2.heap.size := by have := hgrow.size; simp at this; omega
      have HB2 := Lib.hid ((HB1.out.alloc (by omega) _).grown hgrow (by simp; omega) (fun k e => by have := row_high hrow1 k e; omega))
      clear hgrow
      go_wp2_with fail
      go_roundw
      case rel => exact ⟨_, cnt1, zs ++ [x], hrg2, by rw [List.length_append, List.map_append]; exact hown', HC1, by simp; omega, Lib.hid hsz2, HB2⟩
      case measure => rw [hrg2.left_eq, HM0.out]; exact hlt
end Go.Proofs.YtjhkgfbkpgnodaaGreatDoor
