/- The walk of RelayTimes. -/
import Derived.Test.YteghcdabaigcbaaNE3
import Derived.Test.YteghcdabaigcbaaND4
set_option linter.unusedVariables false
set_option linter.unusedSimpArgs false
namespace Go.Proofs.Yteghcdabaigcbaa
open Go.RowKit

/-- What a list is that Earliest returns. -/
def EarlyP (st : Int) (ls : List Lk) (a t : Int) (l : List Int) : Prop := (startE st ls a t ≠ 0 → l = []) ∧ (startE st ls a t = 0 → ∃ by', Inv st.toNat ls a.toNat t l by' ∧ Shut ls l)
theorem EarlyP.unique {st : Int} {ls : List Lk} {a t : Int} {l m : List Int} (h : EarlyP st ls a t l) (k : EarlyP st ls a t m) : l = m := by
  by_cases hE : startE st ls a t = 0
  · obtain ⟨u, h1, h2⟩ := h.2 hE
    obtain ⟨v, k1, k2⟩ := k.2 hE
    exact Inv.unique h1 k1 h2 k2
  · rw [h.1 hE, k.1 hE]
theorem EarlyP.len {st : Int} {ls : List Lk} {a t : Int} {l : List Int} (h : EarlyP st ls a t l) : l.length ≤ 1000000 := by
  by_cases hE : startE st ls a t = 0
  · obtain ⟨u, h1, h2⟩ := h.2 hE
    have h3 := netE_ok (startE_ok hE).1
    rw [h1.la]; omega
  · rw [h.1 hE]; simp
theorem early_in {st : Int} {ls : List Lk} {a t : Int} {w w' : World} {e : Ending} (h : EarlyOut st ls a t w e w') : ∃ v l, e = .returned (.tuple #[v, .int .i64 (startE st ls a t)]) ∧ Below w.heap.size w w' ∧ INRow w' v l ∧ EarlyP st ls a t l := by
  obtain ⟨v, rfl, hb, h1, h2⟩ := h
  by_cases hE : startE st ls a t = 0
  · obtain ⟨at', by', q1, q2, q3⟩ := h2 hE
    exact ⟨v, at', rfl, hb, q1, fun h => absurd hE h, fun _ => ⟨by', q2, q3⟩⟩
  · exact ⟨v, [], rfl, hb, .inl ⟨_, _, h1 hE, rfl⟩, fun _ => rfl, fun h => absurd h hE⟩
theorem rearly_in {st : Int} {ls : List Lk} {a t : Int} {w w' : World} {e : Ending} (h : REarlyOut st ls a t w e w') : ∃ v l, e = .returned (.agg #[v, .int .i64 (startE st ls a t)]) ∧ Below w.heap.size w w' ∧ INRow w' v l ∧ EarlyP st ls a t l := by
  obtain ⟨v, rfl, hb, h1, h2⟩ := h
  by_cases hE : startE st ls a t = 0
  · obtain ⟨at', by', q1, q2, q3⟩ := h2 hE
    exact ⟨v, at', rfl, hb, q1, fun h => absurd hE h, fun _ => ⟨by', q2, q3⟩⟩
  · exact ⟨v, [], rfl, hb, .inl ⟨_, _, h1 hE, rfl⟩, fun _ => rfl, fun h => absurd h hE⟩
/-- What a list is that Latest returns. -/
def LateP (st : Int) (ls : List Lk) (a t : Int) (l : List Int) : Prop := (startE st ls a t ≠ 0 → l = []) ∧ (startE st ls a t = 0 → InvL st.toNat ls a.toNat t l ∧ ShutL ls l)
theorem LateP.unique {st : Int} {ls : List Lk} {a t : Int} {l m : List Int} (h : LateP st ls a t l) (k : LateP st ls a t m) : l = m := by
  by_cases hE : startE st ls a t = 0
  · obtain ⟨h1, h2⟩ := h.2 hE
    obtain ⟨k1, k2⟩ := k.2 hE
    exact InvL.unique h1 k1 h2 k2
  · rw [h.1 hE, k.1 hE]
theorem LateP.len {st : Int} {ls : List Lk} {a t : Int} {l : List Int} (h : LateP st ls a t l) : l.length ≤ 1000000 := by
  by_cases hE : startE st ls a t = 0
  · obtain ⟨h1, h2⟩ := h.2 hE
    have h3 := netE_ok (startE_ok hE).1
    rw [h1.la]; omega
  · rw [h.1 hE]; simp
theorem late_in {st : Int} {ls : List Lk} {a t : Int} {w w' : World} {e : Ending} (h : LateOut st ls a t w e w') : ∃ v l, e = .returned (.tuple #[v, .int .i64 (startE st ls a t)]) ∧ Below w.heap.size w w' ∧ INRow w' v l ∧ LateP st ls a t l := by
  obtain ⟨v, rfl, hb, h1, h2⟩ := h
  by_cases hE : startE st ls a t = 0
  · obtain ⟨at', q1, q2, q3⟩ := h2 hE
    exact ⟨v, at', rfl, hb, q1, fun h => absurd hE h, fun _ => ⟨q2, q3⟩⟩
  · exact ⟨v, [], rfl, hb, .inl ⟨_, _, h1 hE, rfl⟩, fun _ => rfl, fun h => absurd h hE⟩
theorem rlate_in {st : Int} {ls : List Lk} {a t : Int} {w w' : World} {e : Ending} (h : RLateOut st ls a t w e w') : ∃ v l, e = .returned (.agg #[v, .int .i64 (startE st ls a t)]) ∧ Below w.heap.size w w' ∧ INRow w' v l ∧ LateP st ls a t l := by
  obtain ⟨v, rfl, hb, h1, h2⟩ := h
  by_cases hE : startE st ls a t = 0
  · obtain ⟨at', q1, q2, q3⟩ := h2 hE
    exact ⟨v, at', rfl, hb, q1, fun h => absurd hE h, fun _ => ⟨q2, q3⟩⟩
  · exact ⟨v, [], rfl, hb, .inl ⟨_, _, h1 hE, rfl⟩, fun _ => rfl, fun h => absurd h hE⟩

set_option maxRecDepth 100000 in
set_option maxHeartbeats 8000000 in
theorem times_law (st : Int) (o : Value) (ls : List Lk) (a t : Int) (W : World) (hv : NRow W o ls) (hst : -9223372036854775808 ≤ st ∧ st ≤ 9223372036854775807) (ha : -9223372036854775808 ≤ a ∧ a ≤ 9223372036854775807) (ht : -9223372036854775808 ≤ t ∧ t ≤ 9223372036854775807) :
    Calls Try.prog 4 #[ntV st o, .int .i64 a, .int .i64 t] W fun e w' => e = .returned (.bool true) ∧ Below W.heap.size W w' := by
  obtain ⟨oa, oc, rfl, _⟩ := hv.row.form
  have HC1 := Lib.hid (fun w' (h : Below W.heap.size W w') => few_any st (.slice oa ls.length oc) ls w' (hv.keep h))
  have HC2 := Lib.hid (fun w' (h : Below W.heap.size W w') => Earliest_any st (.slice oa ls.length oc) ls a t w' (hv.keep h))
  have HC3 := Lib.hid (fun w' (h : Below W.heap.size W w') => rEarliest_any st (.slice oa ls.length oc) ls a t w' (hv.keep h) hst)
  have HC4 := Lib.hid (fun w' (h : Below W.heap.size W w') => Latest_any st (.slice oa ls.length oc) ls a t w' (hv.keep h))
  have HC5 := Lib.hid (fun w' (h : Below W.heap.size W w') => rLatest_any st (.slice oa ls.length oc) ls a t w' (hv.keep h) hst)
  unfold ntV at HC1 HC2 HC3 HC4 HC5 ⊢
  have HA := Lib.hid (fun W' => net_cells W st (.slice oa ls.length oc) (W := W'))
  have HB0 := Lib.hid ((Below.refl _ W).alloc (Nat.le_refl W.heap.size) (.cells #[.int .i64 st, .slice oa ls.length oc] 24))
  obtain ⟨W1, hW1⟩ : ∃ W1, W.alloc (.cells #[.int .i64 st, .slice oa ls.length oc] 24) = W1 := ⟨_, rfl⟩
  rw [hW1] at HA HB0
  have HW1 := Lib.hid hW1
  clear hv hW1
  cases hf : fewB ls
  · rw [hf] at HC1
    clear hf
    go_enter Try.func4, Try.ntmps4
    go_wp2_with fail
    rw [HW1.out]
    refine (HC1.out _ HB0.out).mono ?_
    rintro e w3 ⟨rfl, hb3⟩
    have HB3 := Lib.hid (HB0.out.trans (hb3.mono HB0.out.size))
    clear hb3
    go_wp2_with fail
    refine (nets_any _).mono ?_
    rintro e wN ⟨rfl, hb⟩
    have HN := Lib.hid (HB3.out.trans (hb.mono HB3.out.size))
    clear hb
    go_wp2_with fail
    go_ret
    exact ⟨rfl, HN.out⟩
  rw [hf] at HC1
  clear hf
  go_enter Try.func4, Try.ntmps4
  go_wp2_with fail
  rw [HW1.out]
  refine (HC1.out _ HB0.out).mono ?_
  rintro e w3 ⟨rfl, hb3⟩
  have HD3 := Lib.hid hb3
  obtain ⟨n0, n1, _, hw3⟩ := HA.out w3 hb3
  have HB3 := Lib.hid hw3
  clear hb3 hw3
  go_wp2_with fail
  refine (HC2.out _ HB3.out).mono ?_
  rintro e w4 h4
  obtain ⟨v4, l1, rfl, hb4, hi4, hp4⟩ := early_in h4
  obtain ⟨q, hq⟩ : ∃ q, startE st ls a t = q := ⟨_, rfl⟩
  obtain ⟨a4, p4, rfl, _⟩ := hi4.form
  rw [hq]
  have HQ := Lib.hid hq
  have HI4 := Lib.hid hi4
  have HP4 := Lib.hid hp4
  have HB4 := Lib.hid (HB3.out.trans (hb4.mono HB3.out.size))
  have HD4 := Lib.hid (HD3.out.trans (hb4.mono HD3.out.size))
  clear h4 hb4 hi4 hp4 hq n0 n1
  obtain ⟨n0, n1, _, _⟩ := HA.out w4 HD4.out
  go_wp2_with fail
  refine (HC3.out _ HB4.out).mono ?_
  rintro e w5 h5
  obtain ⟨v5, l2, rfl, hb5, hi5, hp5⟩ := rearly_in h5
  obtain rfl := HP4.out.unique hp5
  obtain ⟨a5, p5, rfl, _⟩ := hi5.form
  rw [HQ.out]
  have hba := (Below.refl w5.heap.size w5).alloc (Nat.le_refl _) (.cells #[.slice a5 l1.length p5, .int .i64 q] 39)
  have hbx := hb5.trans (hba.mono hb5.size)
  have HI45 := Lib.hid (HI4.out.keep hbx)
  have HI5 := Lib.hid (hi5.keep hba)
  have HB5 := Lib.hid (HB4.out.trans (hbx.mono HB4.out.size))
  have HD5 := Lib.hid (HD4.out.trans (hbx.mono HD4.out.size))
  have HX5 : Hid ((w5.alloc (.cells #[.slice a5 l1.length p5, .int .i64 q] 39)).heap[w5.heap.size]? = some (.cells #[.slice a5 l1.length p5, .int .i64 q] 39 (0, 0))) := Lib.hid (heap_alloc_new _ _)
  have HS5 : Hid (w5.heap.size < (w5.alloc (.cells #[.slice a5 l1.length p5, .int .i64 q] 39)).heap.size) := Lib.hid (by simp)
  obtain ⟨m0, m1, hm2, _⟩ := HA.out w5 (HD4.out.trans (hb5.mono HD4.out.size))
  have hmn : W.heap.size ≠ w5.heap.size := by omega
  clear h5 hb5 hi5 hp5 n0 n1 hba hbx
  go_wp2_with fail
  refine (HC4.out _ HB5.out).mono ?_
  rintro e w6 h6
  obtain ⟨v6, l3, rfl, hb6, hi6, hp6⟩ := late_in h6
  obtain ⟨a6, p6, rfl, _⟩ := hi6.form
  rw [HQ.out]
  have HI46 := Lib.hid (HI45.out.keep hb6)
  have HI56 := Lib.hid (HI5.out.keep hb6)
  have HI6 := Lib.hid hi6
  have HP6 := Lib.hid hp6
  have HX6 := Lib.hid ((hb6.block _ HS5.out).trans HX5.out)
  have HS6 := Lib.hid (Nat.lt_of_lt_of_le HS5.out hb6.size)
  have HB6 := Lib.hid (HB5.out.trans (hb6.mono HB5.out.size))
  have HD6 := Lib.hid (HD5.out.trans (hb6.mono HD5.out.size))
  clear h6 hb6 hi6 hp6 m0 m1 hm2 hmn
  obtain ⟨n0, n1, _, _⟩ := HA.out w6 HD6.out
  go_wp2_with fail
  refine (HC5.out _ HB6.out).mono ?_
  rintro e w7 h7
  obtain ⟨v7, l4, rfl, hb7, hi7, hp7⟩ := rlate_in h7
  obtain rfl := HP6.out.unique hp7
  obtain ⟨a7, p7, rfl, _⟩ := hi7.form
  rw [HQ.out]
  have hba := (Below.refl w7.heap.size w7).alloc (Nat.le_refl _) (.cells #[.slice a7 l3.length p7, .int .i64 q] 39)
  have hbx := hb7.trans (hba.mono hb7.size)
  have HI47 := Lib.hid (HI46.out.keep hbx)
  have HI57 := Lib.hid (HI56.out.keep hbx)
  have HI67 := Lib.hid (HI6.out.keep hbx)
  have HI7 := Lib.hid (hi7.keep hba)
  have HX7 := Lib.hid ((hbx.block _ HS6.out).trans HX6.out)
  have HY7 : Hid ((w7.alloc (.cells #[.slice a7 l3.length p7, .int .i64 q] 39)).heap[w7.heap.size]? = some (.cells #[.slice a7 l3.length p7, .int .i64 q] 39 (0, 0))) := Lib.hid (heap_alloc_new _ _)
  have HS7 : Hid (w7.heap.size < (w7.alloc (.cells #[.slice a7 l3.length p7, .int .i64 q] 39)).heap.size) := Lib.hid (by simp)
  have HT7 := Lib.hid (Nat.lt_of_lt_of_le HS6.out hbx.size)
  have HB7 := Lib.hid (HB6.out.trans (hbx.mono HB6.out.size))
  clear h7 hb7 hi7 hp7 hba hbx n0 n1
  go_wp2_with fail
  refine (nets_any _).mono ?_
  rintro e w8 ⟨rfl, hb8⟩
  have hx := (hb8.block _ HT7.out).trans HX7.out
  have hy := (hb8.block _ HS7.out).trans HY7.out
  have HI48 := Lib.hid (HI47.out.keep hb8)
  have HI58 := Lib.hid (HI57.out.keep hb8)
  have HI68 := Lib.hid (HI67.out.keep hb8)
  have HI78 := Lib.hid (HI7.out.keep hb8)
  have HX8 := Lib.hid hx
  have HY8 := Lib.hid hy
  have HB8 := Lib.hid (HB7.out.trans (hb8.mono HB7.out.size))
  have x0 := cellH hx 0
  have x1 := cellH hx 1
  have y0 := cellH hy 0
  have y1 := cellH hy 1
  simp at x0 x1 y0 y1
  clear hb8 hx hy
  go_wp2_with fail
  refine (ex_Same _ _ l1 _ HI48.out HI58.out HP4.out.len).mono ?_
  rintro e w9 ⟨rfl, hb9⟩
  have hx := (hb9.block _ (Array.getElem?_eq_some_iff.1 HX8.out).1).trans HX8.out
  have hy := (hb9.block _ (Array.getElem?_eq_some_iff.1 HY8.out).1).trans HY8.out
  have HI69 := Lib.hid (HI68.out.keep hb9)
  have HI79 := Lib.hid (HI78.out.keep hb9)
  have HX9 := Lib.hid hx
  have HY9 := Lib.hid hy
  have HB9 := Lib.hid (HB8.out.trans (hb9.mono HB8.out.size))
  clear x0 x1 y0 y1
  have x0 := cellH hx 0
  have x1 := cellH hx 1
  have y0 := cellH hy 0
  have y1 := cellH hy 1
  simp at x0 x1 y0 y1
  clear hb9 hx hy
  go_wp2_with fail
  refine (ex_Same _ _ l3 _ HI69.out HI79.out HP6.out.len).mono ?_
  rintro e w10 ⟨rfl, hb10⟩
  have hy := (hb10.block _ (Array.getElem?_eq_some_iff.1 HY9.out).1).trans HY9.out
  have HB10 := Lib.hid (HB9.out.trans (hb10.mono HB9.out.size))
  clear x0 x1 y0 y1
  have y1 := cellH hy 1
  simp at y1
  clear hb10 hy
  go_wp2_with fail
  go_ret
  exact ⟨by simp, HB10.out⟩
end Go.Proofs.Yteghcdabaigcbaa
