/- The walk of RelayEdits. -/
import Derived.Test.YtiboolbndfhomaaNG1
import Derived.Test.YtiboolbndfhomaaNG3
import Derived.Test.YtiboolbndfhomaaNG4
import Derived.Test.YtiboolbndfhomaaNF3
set_option linter.unusedVariables false
set_option linter.unusedSimpArgs false
namespace Go.Proofs.Ytiboolbndfhomaa
open Go.RowKit

theorem lt_of_cell {w : World} {b o : Nat} {v : Value} (h : w.cell? ⟨b, o, none⟩ = some v) : b < w.heap.size := by
  unfold World.cell? at h
  split at h
  · rename_i hb; exact (Array.getElem?_eq_some_iff.1 hb).1
  · cases h
/-- What Needed answers. -/
def NeedP (st : Int) (ls : List Lk) (a b t q : Int) (l : List Int) : Prop := (wayE st ls a b t ≠ 0 ∧ q = wayE st ls a b t ∧ l = []) ∨
  (wayE st ls a b t = 0 ∧ ∃ at' by', Inv st.toNat ls a.toNat t at' by' ∧ Shut ls at' ∧ ((at0 at' b.toNat < 0 ∧ q = 5 ∧ l = []) ∨ (0 ≤ at0 at' b.toNat ∧ q = 0 ∧
      ∃ c, (∀ i, i < ls.length → OtherAt st.toNat ls a.toNat t b.toNat (at0 at' b.toNat) i (c i)) ∧ l = numsL c ls.length)))
theorem OtherAt.unique {st : Nat} {ls : List Lk} {a : Nat} {t : Int} {b : Nat} {y : Int} {i : Nat} {c d : Bool} (h : OtherAt st ls a t b y i c) (k : OtherAt st ls a t b y i d) : c = d := by
  obtain ⟨x, u, h1, h2, rfl⟩ := h
  obtain ⟨x', u', k1, k2, rfl⟩ := k
  obtain rfl := Inv.unique h1 k1 h2 k2
  rfl
theorem NeedP.unique {st : Int} {ls : List Lk} {a b t q q' : Int} {l l' : List Int} (h : NeedP st ls a b t q l) (k : NeedP st ls a b t q' l') : q = q' ∧ l = l' := by
  rcases h with ⟨h0, h1, h2⟩ | ⟨h0, x, u, h1, h2, h3⟩
  · rcases k with ⟨k0, k1, k2⟩ | ⟨k0, _⟩
    · exact ⟨by rw [h1, k1], by rw [h2, k2]⟩
    · exact absurd k0 h0
  · rcases k with ⟨k0, _⟩ | ⟨k0, x', u', k1, k2, k3⟩
    · exact absurd h0 k0
    · obtain rfl := Inv.unique h1 k1 h2 k2
      rcases h3 with ⟨h3, rfl, rfl⟩ | ⟨h3, rfl, c, hc, rfl⟩
      · rcases k3 with ⟨k3, rfl, rfl⟩ | ⟨k3, _⟩
        · exact ⟨rfl, rfl⟩
        · omega
      · rcases k3 with ⟨k3, _⟩ | ⟨k3, rfl, d, hd, rfl⟩
        · omega
        · exact ⟨rfl, numsL_congr fun i hi => (hc i hi).unique (hd i hi)⟩
theorem NeedP.len {st : Int} {ls : List Lk} {a b t q : Int} {l : List Int} (h : NeedP st ls a b t q l) : l.length ≤ 1000000 := by
  rcases h with ⟨_, _, rfl⟩ | ⟨h0, x, u, _, _, ⟨_, _, rfl⟩ | ⟨_, _, c, _, rfl⟩⟩
  · simp
  · simp
  · have h1 := (netE_ok (startE_ok (wayE_ok h0).1).1).2.2.1
    have := numsL_len c ls.length
    omega
theorem need_in {st : Int} {ls : List Lk} {a b t : Int} {w w' : World} {e : Ending} (h : NeedOut st ls a b t w e w') : ∃ v q l, e = .returned (.tuple #[v, .int .i64 q]) ∧ Below w.heap.size w w' ∧ INRow w' v l ∧ NeedP st ls a b t q l := by
  obtain ⟨v, q, rfl, hb, h1, h2⟩ := h
  by_cases hE : wayE st ls a b t = 0
  · obtain ⟨x, u, k1, k2, ⟨k3, rfl, rfl⟩ | ⟨k3, rfl, c, k4, k5⟩⟩ := h2 hE
    · exact ⟨_, _, [], rfl, hb, .inl ⟨_, _, rfl, rfl⟩, .inr ⟨hE, x, u, k1, k2, .inl ⟨k3, rfl, rfl⟩⟩⟩
    · exact ⟨_, _, _, rfl, hb, k5, .inr ⟨hE, x, u, k1, k2, .inr ⟨k3, rfl, c, k4, rfl⟩⟩⟩
  · obtain ⟨rfl, rfl⟩ := h1 hE
    exact ⟨_, _, [], rfl, hb, .inl ⟨_, _, rfl, rfl⟩, .inl ⟨hE, rfl, rfl⟩⟩
theorem rneed_in {st : Int} {ls : List Lk} {a b t : Int} {w w' : World} {e : Ending} (h : RNeedOut st ls a b t w e w') : ∃ v q l, e = .returned (.agg #[v, .int .i64 q]) ∧ Below w.heap.size w w' ∧ INRow w' v l ∧ NeedP st ls a b t q l := by
  obtain ⟨v, q, rfl, hb, h1, h2⟩ := h
  by_cases hE : wayE st ls a b t = 0
  · obtain ⟨x, u, k1, k2, ⟨k3, rfl, rfl⟩ | ⟨k3, rfl, c, k4, k5⟩⟩ := h2 hE
    · exact ⟨_, _, [], rfl, hb, .inl ⟨_, _, rfl, rfl⟩, .inr ⟨hE, x, u, k1, k2, .inl ⟨k3, rfl, rfl⟩⟩⟩
    · exact ⟨_, _, _, rfl, hb, k5, .inr ⟨hE, x, u, k1, k2, .inr ⟨k3, rfl, c, k4, rfl⟩⟩⟩
  · obtain ⟨rfl, rfl⟩ := h1 hE
    exact ⟨_, _, [], rfl, hb, .inl ⟨_, _, rfl, rfl⟩, .inl ⟨hE, rfl, rfl⟩⟩
def shutS (st : Int) (ls : List Lk) (c : Sp) : Int := if closedE st ls c = 0 then st else 0
def shutR (st : Int) (ls : List Lk) (c : Sp) : List Lk := if closedE st ls c = 0 then closeL ls c else []
theorem closed_in {st : Int} {ls : List Lk} {c : Sp} {w w' : World} {e : Ending} (h : ClosedOut st ls c w e w') : ∃ u, e = .returned (.tuple #[.agg #[.int .i64 (shutS st ls c), u], .int .i64 (closedE st ls c)]) ∧ Below w.heap.size w w' ∧ NRow w' u (shutR st ls c) := by
  obtain ⟨a, u, rfl, hb, h1, h2⟩ := h
  unfold shutS shutR
  by_cases hE : closedE st ls c = 0
  · obtain ⟨rfl, k⟩ := h2 hE
    rw [if_pos hE, if_pos hE]
    exact ⟨u, rfl, hb, k⟩
  · obtain ⟨rfl, rfl⟩ := h1 hE
    rw [if_neg hE, if_neg hE]
    exact ⟨_, rfl, hb, .inl ⟨_, _, rfl, rfl⟩, fun k hk => by simp at hk, by simp⟩

set_option maxRecDepth 100000 in
set_option maxHeartbeats 8000000 in
theorem edits_law (st : Int) (o : Value) (ls : List Lk) (a b t c1 c2 : Int) (W : World) (hv : NRow W o ls) (hst : -9223372036854775808 ≤ st ∧ st ≤ 9223372036854775807) (ha : -9223372036854775808 ≤ a ∧ a ≤ 9223372036854775807) (hb : -9223372036854775808 ≤ b ∧ b ≤ 9223372036854775807) (ht : -9223372036854775808 ≤ t ∧ t ≤ 9223372036854775807)
    (hc1 : -9223372036854775808 ≤ c1 ∧ c1 ≤ 9223372036854775807) (hc2 : -9223372036854775808 ≤ c2 ∧ c2 ≤ 9223372036854775807) :
    Calls Try.prog 6 #[ntV st o, .int .i64 a, .int .i64 b, .int .i64 t, .agg #[.int .i64 c1, .int .i64 c2]] W fun e w' => e = .returned (.bool true) ∧ Below W.heap.size W w' := by
  obtain ⟨oa, oc, rfl, hlc⟩ := hv.row.form
  have HC1 := Lib.hid (fun w' (h : Below W.heap.size W w') => few_any st (.slice oa ls.length oc) ls w' (hv.keep h))
  have HC2 := Lib.hid (fun w' (h : Below W.heap.size W w') => Needed_any st (.slice oa ls.length oc) ls a b t w' (hv.keep h))
  have HC3 := Lib.hid (fun w' (h : Below W.heap.size W w') => rNeeded_any st (.slice oa ls.length oc) ls a b t w' (hv.keep h) hst)
  have HC4 := Lib.hid (fun w' (h : Below W.heap.size W w') => Closed_any st (.slice oa ls.length oc) ls c1 c2 w' (hv.keep h) ⟨hc1.2, hc2.1⟩)
  have HC5 := Lib.hid (fun w' (h : Below W.heap.size W w') => rClosed_any st (.slice oa ls.length oc) ls c1 c2 w' (hv.keep h) hst ⟨hc1.1, hc2.2⟩)
  unfold ntV at HC1 HC2 HC3 HC4 HC5 ⊢
  have HA := Lib.hid (fun W' => two_cells W #[.int .i64 st, .slice oa ls.length oc] #[.int .i64 c1, .int .i64 c2] 24 52 (W := W'))
  have HB0 := Lib.hid (((Below.refl _ W).alloc (Nat.le_refl W.heap.size) (.cells #[.int .i64 st, .slice oa ls.length oc] 24)).alloc (by simp) (.cells #[.int .i64 c1, .int .i64 c2] 52))
  obtain ⟨W1, hW1⟩ : ∃ W1, (W.alloc (.cells #[.int .i64 st, .slice oa ls.length oc] 24)).alloc (.cells #[.int .i64 c1, .int .i64 c2] 52) = W1 := ⟨_, rfl⟩
  rw [hW1] at HA HB0
  have HW1 := Lib.hid hW1
  clear hv hlc hW1
  cases hf : fewB ls
  · rw [hf] at HC1
    clear hf
    go_enter Try.func6, Try.ntmps6
    go_wp2_with fail
    rw [HW1.out]
    refine (HC1.out _ HB0.out).mono ?_
    rintro e w3 ⟨rfl, hb3⟩
    have HB3 := Lib.hid (HB0.out.trans (hb3.mono HB0.out.size))
    clear hb3
    go_wp2_with fail
    refine (nets_any _).mono ?_
    rintro e wN ⟨rfl, hb⟩
    have HN := Lib.hid (HB3.out.trans (hb.mono HB3.out.size))
    clear hb
    go_wp2_with fail
    go_ret
    exact ⟨rfl, HN.out⟩
  rw [hf] at HC1
  clear hf
  go_enter Try.func6, Try.ntmps6
  go_wp2_with fail
  rw [HW1.out]
  refine (HC1.out _ HB0.out).mono ?_
  rintro e w3 ⟨rfl, hb3⟩
  have HD3 := Lib.hid hb3
  obtain ⟨m0, m1, _, hw3⟩ := HA.out w3 hb3
  have n0 := cellH m0 0
  have n1 := cellH m0 1
  have s0 := cellH m1 0
  have s1 := cellH m1 1
  simp at n0 n1 s0 s1
  have HB3 := Lib.hid hw3
  clear hb3 hw3 m0 m1
  go_wp2_with fail
  refine (HC2.out _ HB3.out).mono ?_
  rintro e w4 h4
  obtain ⟨v4, q, l1, rfl, hb4, hi4, hp4⟩ := need_in h4
  obtain ⟨a4, p4, rfl, _⟩ := hi4.form
  have HI4 := Lib.hid hi4
  have HP4 := Lib.hid hp4
  have HB4 := Lib.hid (HB3.out.trans (hb4.mono HB3.out.size))
  have HD4 := Lib.hid (HD3.out.trans (hb4.mono HD3.out.size))
  clear h4 hb4 hi4 hp4 n0 n1 s0 s1
  obtain ⟨m0, m1, _, _⟩ := HA.out w4 HD4.out
  have n0 := cellH m0 0
  have n1 := cellH m0 1
  have s0 := cellH m1 0
  have s1 := cellH m1 1
  simp at n0 n1 s0 s1
  clear m0 m1
  go_wp2_with fail
  refine (HC3.out _ HB4.out).mono ?_
  rintro e w5 h5
  obtain ⟨v5, q', l2, rfl, hb5, hi5, hp5⟩ := rneed_in h5
  obtain ⟨rfl, rfl⟩ := HP4.out.unique hp5
  obtain ⟨a5, p5, rfl, _⟩ := hi5.form
  have hba := (Below.refl w5.heap.size w5).alloc (Nat.le_refl _) (.cells #[.slice a5 l1.length p5, .int .i64 q] 39)
  have hbx := hb5.trans (hba.mono hb5.size)
  have HI45 := Lib.hid (HI4.out.keep hbx)
  have HI5 := Lib.hid (hi5.keep hba)
  have HB5 := Lib.hid (HB4.out.trans (hbx.mono HB4.out.size))
  have HD5 := Lib.hid (HD4.out.trans (hbx.mono HD4.out.size))
  have HX5 : Hid ((w5.alloc (.cells #[.slice a5 l1.length p5, .int .i64 q] 39)).heap[w5.heap.size]? = some (.cells #[.slice a5 l1.length p5, .int .i64 q] 39 (0, 0))) := Lib.hid (heap_alloc_new _ _)
  have HS5 : Hid (w5.heap.size < (w5.alloc (.cells #[.slice a5 l1.length p5, .int .i64 q] 39)).heap.size) := Lib.hid (by simp)
  clear n0 n1 s0 s1
  obtain ⟨m0, m1, hm2, _⟩ := HA.out w5 (HD4.out.trans (hb5.mono HD4.out.size))
  have n0 := cellH m0 0
  have n1 := cellH m0 1
  have s0 := cellH m1 0
  have s1 := cellH m1 1
  simp at n0 n1 s0 s1
  have hmn : W.heap.size ≠ w5.heap.size := by omega
  have hmn1 : W.heap.size + 1 ≠ w5.heap.size := by omega
  have hlt0 : W.heap.size < w5.heap.size := by omega
  clear h5 hb5 hi5 hp5 hba hbx m0 m1
  go_wp2_with fail
  refine (HC4.out _ HB5.out).mono ?_
  rintro e w6 h6
  obtain ⟨u6, rfl, hb6, hn6⟩ := closed_in h6
  obtain ⟨a6, c6, rfl, _⟩ := hn6.row.form
  obtain ⟨E, hE⟩ : ∃ E, closedE st ls (c1, c2) = E := ⟨_, rfl⟩
  obtain ⟨S, hS⟩ : ∃ S, shutS st ls (c1, c2) = S := ⟨_, rfl⟩
  rw [hE, hS]
  have HE := Lib.hid hE
  have HS := Lib.hid hS
  have HX6 := Lib.hid ((hb6.block _ HS5.out).trans HX5.out)
  have HS6 := Lib.hid (Nat.lt_of_lt_of_le HS5.out hb6.size)
  have HI46 := Lib.hid (HI45.out.keep hb6)
  have HI56 := Lib.hid (HI5.out.keep hb6)
  have HB6 := Lib.hid (HB5.out.trans (hb6.mono HB5.out.size))
  have HD6 := Lib.hid (HD5.out.trans (hb6.mono HD5.out.size))
  have HN6 := Lib.hid hn6
  clear h6 hb6 hn6 hE hS n0 n1 s0 s1 hmn hmn1 hlt0 hm2
  obtain ⟨m0, m1, hm2, _⟩ := HA.out w6 HD6.out
  have n0 := cellH m0 0
  have n1 := cellH m0 1
  have s0 := cellH m1 0
  have s1 := cellH m1 1
  simp at n0 n1 s0 s1
  have hmn : W.heap.size ≠ w6.heap.size := by omega
  have hmn1 : W.heap.size + 1 ≠ w6.heap.size := by omega
  have hlt0 : W.heap.size < w6.heap.size := by omega
  clear m0 m1
  go_wp2_with fail
  have hb60 : Below w6.heap.size w6 (w6.alloc (.cells #[.int .i64 S, .slice a6 (shutR st ls (c1, c2)).length c6] 24)) := (Below.refl _ w6).alloc (Nat.le_refl _) _
  have HB6' := Lib.hid (HB6.out.trans (hb60.mono HB6.out.size))
  refine (HC5.out _ HB6'.out).mono ?_
  rintro e w7 h7
  obtain ⟨u7, rfl, hb7, hn7⟩ := closed_in h7
  obtain ⟨a7, c7, rfl, _⟩ := hn7.row.form
  rw [HE.out, HS.out]
  have hb67 := hb60.trans (hb7.mono hb60.size)
  have hb70 : Below w7.heap.size w7 (w7.alloc (.cells #[.int .i64 S, .slice a7 (shutR st ls (c1, c2)).length c7] 24)) := (Below.refl _ w7).alloc (Nat.le_refl _) _
  have hb68 := hb67.trans (hb70.mono hb67.size)
  have HY7 : Hid ((w7.alloc (.cells #[.int .i64 S, .slice a7 (shutR st ls (c1, c2)).length c7] 24)).heap[w6.heap.size]? = some (.cells #[.int .i64 S, .slice a6 (shutR st ls (c1, c2)).length c6] 24 (0, 0))) := Lib.hid (by
    rw [gNe _ _ _ (by have := hb7.size; simp at this; omega), hb7.block _ (by simp)]
    exact heap_alloc_new _ _)
  have HZ7 : Hid ((w7.alloc (.cells #[.int .i64 S, .slice a7 (shutR st ls (c1, c2)).length c7] 24)).heap[w7.heap.size]? = some (.cells #[.int .i64 S, .slice a7 (shutR st ls (c1, c2)).length c7] 24 (0, 0))) := Lib.hid (heap_alloc_new _ _)
  have HX7 := Lib.hid ((hb68.block _ HS6.out).trans HX6.out)
  have HI47 := Lib.hid (HI46.out.keep hb68)
  have HI57 := Lib.hid (HI56.out.keep hb68)
  have HN67 := Lib.hid (HN6.out.keep hb68)
  have HN7 := Lib.hid (hn7.keep hb70)
  have HB7 := Lib.hid (HB6.out.trans (hb68.mono HB6.out.size))
  have hw67 : w6.heap.size < w7.heap.size := by have := hb7.size; simp at this; omega
  have HL7 : Hid (w5.heap.size < (w7.alloc (.cells #[.int .i64 S, .slice a7 (shutR st ls (c1, c2)).length c7] 24)).heap.size ∧ w6.heap.size < (w7.alloc (.cells #[.int .i64 S, .slice a7 (shutR st ls (c1, c2)).length c7] 24)).heap.size ∧ w7.heap.size < (w7.alloc (.cells #[.int .i64 S, .slice a7 (shutR st ls (c1, c2)).length c7] 24)).heap.size) := Lib.hid (by
    have := HS6.out
    simp
    omega)
  clear h7 hb7 hn7 hb67 hb68 hb60 hb70 n0 n1 s0 s1 hmn hmn1 hlt0 hm2
  go_wp2_with fail
  refine (nets_any _).mono ?_
  rintro e w8 ⟨rfl, hb8⟩
  have hx := (hb8.block _ HL7.out.1).trans HX7.out
  have hy := (hb8.block _ HL7.out.2.1).trans HY7.out
  have hz := (hb8.block _ HL7.out.2.2).trans HZ7.out
  have HI48 := Lib.hid (HI47.out.keep hb8)
  have HI58 := Lib.hid (HI57.out.keep hb8)
  have HN68 := Lib.hid (HN67.out.keep hb8)
  have HN78 := Lib.hid (HN7.out.keep hb8)
  have HY8 := Lib.hid hy
  have HZ8 := Lib.hid hz
  have HB8 := Lib.hid (HB7.out.trans (hb8.mono HB7.out.size))
  have x0 := cellH hx 0
  have x1 := cellH hx 1
  simp at x0 x1
  clear hb8 hx hy hz hw67
  go_wp2_with fail
  refine (ex_Same _ _ l1 _ HI48.out HI58.out HP4.out.len).mono ?_
  rintro e w9 ⟨rfl, hb9⟩
  have hxx := hb9.block w5.heap.size (by have h1 := HY8.out; have h2 := HL7.out.1; exact lt_of_cell x0)
  have hy := (hb9.block _ (Array.getElem?_eq_some_iff.1 HY8.out).1).trans HY8.out
  have hz := (hb9.block _ (Array.getElem?_eq_some_iff.1 HZ8.out).1).trans HZ8.out
  have e1 : w9.cell? ⟨w5.heap.size, 1, none⟩ = some (.int .i64 q) := (World.cell?_of_block hxx).trans x1
  have HN69 := Lib.hid (HN68.out.keep hb9)
  have HN79 := Lib.hid (HN78.out.keep hb9)
  have HB9 := Lib.hid (HB8.out.trans (hb9.mono HB8.out.size))
  have y0 := cellH hy 0
  have y1 := cellH hy 1
  have z0 := cellH hz 0
  have z1 := cellH hz 1
  simp at y0 y1 z0 z1
  clear hb9 hy hz hxx x0 x1
  go_wp2_with fail
  refine (rSameNet_any S _ _ _ w9 HN69.out HN79.out).mono ?_
  rintro e w10 ⟨rfl, hb10⟩
  have HB10 := Lib.hid (HB9.out.trans (hb10.mono HB9.out.size))
  clear hb10 y0 y1 z0 z1 e1
  go_wp2_with fail
  go_ret
  exact ⟨by simp, HB10.out⟩
end Go.Proofs.Ytiboolbndfhomaa
