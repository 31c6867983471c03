/- The walk of BeamBooks. -/
import Derived.Test.YtjhkgfbkpgnodaaGreatDoorY15
import Derived.Test.YtjhkgfbkpgnodaaGreatDoorY9
import Derived.Test.YtjhkgfbkpgnodaaGreatDoorY16
namespace Go.Proofs.YtjhkgfbkpgnodaaGreatDoor
open Go.RowKit Go.Shelf

theorem apart_form (o : Option (Nat × Nat)) : ∃ (i j : Int) (is : Bool), apartV o = .tuple #[.int .i64 i, .int .i64 j, .bool is, .int .i64 0] ∧ pairA o = .agg #[.int .i64 i, .int .i64 j, .bool is, .int .i64 0] := by
  cases o with
  | none => exact ⟨_, _, _, rfl, rfl⟩
  | some p => exact ⟨_, _, _, rfl, rfl⟩
theorem books_same (l : List (List UInt8)) (n : Int) (v : Value) (hcap : ∀ a n c, v = .slice a n c → n ≤ c) (hm : ∀ s ∈ l, s.length ≤ maxLen) (hb : bookB l = true) : ∃ (i j : Int) (is : Bool) (q : Int) (L : List Nat), L.length ≤ 1000 ∧
    (∀ W, Env W → Tz W → SRow W v l → Calls Tryz.prog 17 #[v, .int .i64 n] W fun e w' => e = .returned (.tuple #[.int .i64 i, .int .i64 j, .bool is, .int .i64 q]) ∧ Below W.heap.size W w') ∧
    (∀ W, SRow W v l → Calls Tryz.prog 18 #[v, .int .i64 n] W fun e w' => e = .returned (.agg #[.int .i64 i, .int .i64 j, .bool is, .int .i64 q]) ∧ Below W.heap.size W w') ∧
    (∀ W, Env W → SRow W v l → Calls Tryz.prog 19 #[v, .int .i64 n] W fun e w' => ∃ u, e = .returned (.tuple #[u, .int .i64 q]) ∧ IRow w' u L ∧ Below W.heap.size W w') ∧
    (∀ W, SRow W v l → Calls Tryz.prog 20 #[v, .int .i64 n] W fun e w' => ∃ u, e = .returned (.agg #[u, .int .i64 q]) ∧ IRow w' u L ∧ Below W.heap.size W w') := by
  have hlen : l.length ≤ 4 ∨ (8 < l.length ∧ l.length ≤ 20) := by
    unfold bookB at hb
    simp only [Bool.and_eq_true, Bool.or_eq_true, decide_eq_true_eq] at hb
    exact hb.2
  by_cases hE : booksE l n = 0
  · have h4 : l.length ≤ 4 := by
      rcases hlen with h | ⟨h, _⟩
      · exact h
      · exfalso
        unfold booksE orI bookE at hE
        rw [if_pos h] at hE
        simp at hE
    obtain ⟨_, _, h0, h2⟩ := booksE_ok hE
    obtain ⟨m, rfl⟩ : ∃ m : Nat, n = m := ⟨n.toNat, by omega⟩
    obtain ⟨i, j, is, e1, e2⟩ := apart_form (apartO (bookC l m) l.length)
    refine ⟨i, j, is, 0, pickS (bookC l m) l.length l.length, ?_, fun W h1 h2 h3 => ?_, fun W h3 => ?_, fun W h1 h3 => Largest_ok v l m W h3 hcap hm h4 hE h1, fun W h3 => ?_⟩
    · have := bigR_len (bookC l m) l.length (2 ^ l.length)
      have e := big_same l.length (by omega) (pairB l m 0 1) (pairB l m 0 2) (pairB l m 0 3) (pairB l m 1 2) (pairB l m 1 3) (pairB l m 2 3)
      rw [show cT (pairB l m 0 1) (pairB l m 0 2) (pairB l m 0 3) (pairB l m 1 2) (pairB l m 1 3) (pairB l m 2 3) = bookC l m from rfl] at e
      rw [← e]; omega
    · have := Apart_ok v l m W h3 hcap hm h4 hE h1 h2
      rwa [e1] at this
    · have := rApart_ok v l m W h3 hm h4 hE
      rwa [e2] at this
    · have := rLargest_ok v l m W h3 hm h4 hE
      have e := big_same l.length (by omega) (pairB l m 0 1) (pairB l m 0 2) (pairB l m 0 3) (pairB l m 1 2) (pairB l m 1 3) (pairB l m 2 3)
      rw [show cT (pairB l m 0 1) (pairB l m 0 2) (pairB l m 0 3) (pairB l m 1 2) (pairB l m 1 3) (pairB l m 2 3) = bookC l m from rfl] at e
      rwa [e] at this
  · refine ⟨0, 0, false, booksE l n, [], by simp, fun W _ _ h3 => Apart_err v l n W h3 hcap hm (by omega) hE, fun W h3 => rApart_err v l n W h3 hm (by omega) hE, fun W _ h3 => (Largest_err v l n W h3 hcap hm (by omega) hE).mono ?_, fun W h3 => (rLargest_err v l n W h3 hm (by omega) hE).mono ?_⟩
    · rintro e w' ⟨rfl, hb⟩
      exact ⟨_, rfl, .inl ⟨rfl, rfl⟩, hb⟩
    · rintro e w' ⟨rfl, hb⟩
      exact ⟨_, rfl, .inl ⟨rfl, rfl⟩, hb⟩

set_option maxRecDepth 100000 in
set_option maxHeartbeats 2000000 in
theorem books_law (v : Value) (l : List (List UInt8)) (n : Int) (W : World) (hG : Glob W) (hT : Tz W) (hv : SRow W v l) (hm : ∀ s ∈ l, s.length ≤ maxLen) (hcap : ∀ a n c, v = .slice a n c → n ≤ c) (hcm : ∀ a n c, v = .slice a n c → c ≤ maxLen) :
    Calls Tryz.prog 5 #[v, .int .i64 n] W fun e w' => e = .returned (.bool true) ∧ Below W.heap.size W w' := by
  have hll : l.length ≤ 9223372036854775807 := by
    obtain ⟨a, cap, e, _⟩ := hv.form
    have h1 := hcap _ _ _ e
    have h2 := hcm _ _ _ e
    unfold maxLen at h2; omega
  have HG := Lib.hid hG
  have HV := Lib.hid hv
  by_cases hb : bookB l = true
  case neg =>
    have H1 : Hid (bookB l = false) := Lib.hid (by simpa using hb)
    clear hb hG hv hm hcap hcm hT
    go_enter Tryz.func5, Tryz.ntmps5
    go_wp2_with fail
    refine (head_any _ HG.out).mono ?_
    rintro e v1 ⟨rfl, hb⟩
    have HB := Lib.hid hb
    clear hb
    go_wp2_with fail
    refine (book_any v l _ (HV.out.keep HB.out) hll).mono ?_
    rintro e v2 ⟨rfl, rfl⟩
    rw [H1.out]
    go_wp2_with fail
    go_ret
    exact ⟨rfl, HB.out⟩
  obtain ⟨i, j, is, q, L, hL, A1, A2, A3, A4⟩ := books_same l n v hcap hm hb
  have H1 := Lib.hid hb
  have HT := Lib.hid hT
  have HA1 := Lib.hid A1
  have HA2 := Lib.hid A2
  have HA3 := Lib.hid A3
  have HA4 := Lib.hid A4
  clear hb hG hv hm hcap hcm hT A1 A2 A3 A4
  go_enter Tryz.func5, Tryz.ntmps5
  go_wp2_with fail
  refine (head_any _ HG.out).mono ?_
  rintro e v1 ⟨rfl, hb⟩
  have HB := Lib.hid hb
  clear hb
  go_wp2_with fail
  refine (book_any v l _ (HV.out.keep HB.out) hll).mono ?_
  rintro e v2 ⟨rfl, rfl⟩
  rw [H1.out]
  go_wp2_with fail
  refine (HA1.out _ (HG.out.below HB.out).env (HT.out.below HB.out) (HV.out.keep HB.out)).mono ?_
  rintro e v3 ⟨rfl, hb⟩
  have HB3 := Lib.hid (HB.out.trans (hb.mono HB.out.size))
  clear hb
  go_wp2_with fail
  refine (HA2.out _ (HV.out.keep HB3.out)).mono ?_
  rintro e v4 ⟨rfl, hb⟩
  have HB4 := Lib.hid (HB3.out.trans (hb.mono HB3.out.size))
  clear hb
  go_wp2_with fail
  have hba := (Below.refl v4.heap.size v4).alloc (Nat.le_refl _) (.cells #[.int .i64 i, .int .i64 j, .bool is, .int .i64 q] 46)
  have HB5 := Lib.hid (HB4.out.trans (hba.mono HB4.out.size))
  clear hba
  refine (HA3.out _ (HG.out.below HB5.out).env (HV.out.keep HB5.out)).mono ?_
  rintro e v5 ⟨u, rfl, hu, hb⟩
  have hx5 : v5.heap[v4.heap.size]? = some (.cells #[.int .i64 i, .int .i64 j, .bool is, .int .i64 q] 46 (0, 0)) := (hb.block _ (by simp)).trans (World.alloc_heap_new v4 _)
  have HX5 := Lib.hid hx5
  have HU := Lib.hid hu
  have HB6 := Lib.hid (HB5.out.trans (hb.mono HB5.out.size))
  clear hb hu hx5
  go_wp2_with fail
  refine (HA4.out _ (HV.out.keep HB6.out)).mono ?_
  rintro e v6 ⟨u2, rfl, hu2, hb⟩
  have HU6 := Lib.hid (HU.out.keep hb)
  have hx6 := (hb.block _ (Array.getElem?_eq_some_iff.1 HX5.out).1).trans HX5.out
  have HX6 := Lib.hid hx6
  have HB7 := Lib.hid (HB6.out.trans (hb.mono HB6.out.size))
  obtain ⟨a2, cp2, hu2v, _⟩ := hu2.form
  subst hu2v
  have HU2 := Lib.hid hu2
  clear hb hu2 hx6
  go_wp2_with fail
  have hba := (Below.refl v6.heap.size v6).alloc (Nat.le_refl _) (.cells #[.slice a2 L.length cp2, .int .i64 q] 52)
  have HUa := Lib.hid (HU6.out.keep hba)
  have HUb := Lib.hid (HU2.out.keep hba)
  have HB8 := Lib.hid (HB7.out.trans (hba.mono HB7.out.size))
  have hx7 := (hba.block _ (Array.getElem?_eq_some_iff.1 HX6.out).1).trans HX6.out
  have HX7 := Lib.hid hx7
  clear hba hx7
  refine (ints_any _ _ L L _ HUa.out HUb.out hL hL).mono ?_
  rintro e v8 ⟨rfl, hb⟩
  rw [show decide (L = L) = true from decide_eq_true rfl]
  have hx8 := (hb.block _ (Array.getElem?_eq_some_iff.1 HX7.out).1).trans HX7.out
  have d0 := cell_of_heap hx8 0
  have d1 := cell_of_heap hx8 1
  have d2 := cell_of_heap hx8 2
  have d3 := cell_of_heap hx8 3
  have hc1 : v8.cell? ⟨v6.heap.size, 1, none⟩ = some (.int .i64 q) := (hb.cell (p := ⟨v6.heap.size, 1, none⟩) (by simp)).trans (by rw [World.cell?_alloc_new]; rfl)
  simp at d0 d1 d2 d3
  have HB9 := Lib.hid (HB8.out.trans (hb.mono HB8.out.size))
  clear hb hx8
  go_wp2_with fail
  go_ret
  exact ⟨by simp, HB9.out⟩
end Go.Proofs.YtjhkgfbkpgnodaaGreatDoor
