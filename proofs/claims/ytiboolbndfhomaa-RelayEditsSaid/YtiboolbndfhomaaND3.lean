/- nets of package firetowerlaw02: the chapter's example answers as the chapter says. -/
import Derived.Test.YtiboolbndfhomaaND2
import Derived.Test.YtiboolbndfhomaaNB4
set_option linter.unusedVariables false
set_option linter.unusedSimpArgs false
namespace Go.Proofs.Ytiboolbndfhomaa
open Go.RowKit

theorem ex_Leave (o : Value) (w : World) (hs : SpRow w o [(0, 20), (100, 200)]) : Calls Try.prog 12 #[.agg #[.int .i64 0, .int .i64 1, .int .i64 5, o], .int .i64 16] w fun e w' => e = .returned (.tuple #[.int .i64 100, .bool true]) ∧ Below w.heap.size w w' := by
  have := Leave_any (exLs.getD 0 .nil) 16 o w hs (by decide)
  rw [ex_leave] at this
  exact this
theorem ex_Last (o : Value) (w : World) (hs : SpRow w o [(0, 20), (100, 200)]) : Calls Try.prog 14 #[.agg #[.int .i64 0, .int .i64 1, .int .i64 5, o], .int .i64 30] w fun e w' => e = .returned (.tuple #[.int .i64 15, .bool true]) ∧ Below w.heap.size w w' := by
  have := Last_any (exLs.getD 0 .nil) 30 o w hs (by decide)
  rw [ex_last] at this
  exact this
theorem ex_Earliest (o : Value) (w : World) (hv : NRow w o exLs) : Calls Try.prog 18 #[.agg #[.int .i64 3, o], .int .i64 0, .int .i64 16] w fun e w' => ∃ a cap, e = .returned (.tuple #[.slice a 3 cap, .int .i64 0]) ∧ INRow w' (.slice a 3 cap) [16, 105, -1] ∧ Below w.heap.size w w' := by
  refine (Earliest_any 3 o exLs 0 16 w hv).mono ?_
  rintro e w' ⟨v, rfl, hb, _, h⟩
  have hs := ex_start 0 16 (by decide) (by decide) (by decide)
  obtain ⟨at', by', h1, h2, h3⟩ := h hs
  obtain rfl := ex_early h2 h3
  obtain ⟨a, cap, rfl, _⟩ := h1.form
  exact ⟨a, cap, by rw [hs]; rfl, h1, hb⟩
theorem ex_Latest (o : Value) (w : World) (hv : NRow w o exLs) : Calls Try.prog 20 #[.agg #[.int .i64 3, o], .int .i64 2, .int .i64 60] w fun e w' => ∃ a cap, e = .returned (.tuple #[.slice a 3 cap, .int .i64 0]) ∧ INRow w' (.slice a 3 cap) [15, 30, 60] ∧ Below w.heap.size w w' := by
  refine (Latest_any 3 o exLs 2 60 w hv).mono ?_
  rintro e w' ⟨v, rfl, hb, _, h⟩
  have hs := ex_start 2 60 (by decide) (by decide) (by decide)
  obtain ⟨at', h1, h2, h3⟩ := h hs
  obtain rfl := ex_late h2 h3
  obtain ⟨a, cap, rfl, _⟩ := h1.form
  exact ⟨a, cap, by rw [hs]; rfl, h1, hb⟩
theorem ex_Way (o : Value) (w : World) (hv : NRow w o exLs) : Calls Try.prog 23 #[.agg #[.int .i64 3, o], .int .i64 0, .int .i64 2, .int .i64 3] w fun e w' => ∃ a cap l, e = .returned (.tuple #[.slice a 2 cap, .int .i64 0]) ∧ SpRow w' (.slice a 2 cap) l ∧ wayR 3 exLs 0 2 3 l = (22, 0) ∧ Below w.heap.size w w' := by
  refine (Way_any 3 o exLs 0 2 3 w hv).mono ?_
  rintro e w' ⟨v, q, rfl, hb, _, h⟩
  have hs := ex_way 0 2 3 (by decide) (by decide) (by decide) (by decide)
  obtain ⟨at', by', h2, h3, h4⟩ := h hs
  obtain rfl := ex_early3 h2 h3
  rcases h4 with ⟨h4, _⟩ | ⟨_, rfl, l, h5, h6⟩
  · exact absurd h4 (by decide)
  · have hl : l.length = 2 := (ex_trail h2 h6).1
    obtain ⟨a, cap, rfl, _⟩ := h5.form
    exact ⟨a, cap, l, by rw [hl], by rw [hl] at h5; exact h5, ex_checkway h2 h3 h6, hb⟩
theorem ex_CheckWay (o v : Value) (l : List Sp) (w : World) (hv : NRow w o exLs) (hl : SpRow w v l) (h : wayR 3 exLs 0 2 3 l = (22, 0)) : Calls Try.prog 26 #[.agg #[.int .i64 3, o], .int .i64 0, .int .i64 2, .int .i64 3, v] w fun e w' => e = .returned (.tuple #[.int .i64 22, .int .i64 0]) ∧ Below w.heap.size w w' := by
  have := CheckWay_any 3 o exLs 0 2 3 v l w hv hl
  rw [h] at this
  exact this
theorem ex_Needed (o : Value) (w : World) (hv : NRow w o exLs) : Calls Try.prog 29 #[.agg #[.int .i64 3, o], .int .i64 0, .int .i64 2, .int .i64 3] w fun e w' => ∃ a cap, e = .returned (.tuple #[.slice a 2 cap, .int .i64 0]) ∧ INRow w' (.slice a 2 cap) [0, 1] ∧ Below w.heap.size w w' := by
  refine (Needed_any 3 o exLs 0 2 3 w hv).mono ?_
  rintro e w' ⟨v, q, rfl, hb, _, h⟩
  have hs := ex_way 0 2 3 (by decide) (by decide) (by decide) (by decide)
  obtain ⟨at', by', h2, h3, h4⟩ := h hs
  obtain rfl := ex_early3 h2 h3
  rcases h4 with ⟨h4, _⟩ | ⟨_, rfl, c, h5, h6⟩
  · exact absurd h4 (by decide)
  · rw [ex_needed h5] at h6
    obtain ⟨a, cap, rfl, _⟩ := h6.form
    exact ⟨a, cap, rfl, h6, hb⟩
theorem ex_Bounds1 (o v : Value) (w : World) (hv : NRow w o exLs) (hl : INRow w v [3, 8, 22]) : Calls Try.prog 27 #[.agg #[.int .i64 3, o], .int .i64 0, .int .i64 3, v] w fun e w' => e = .returned (.int .i64 0) ∧ Below w.heap.size w w' := by
  have := CheckBounds_any 3 o exLs 0 3 v _ w hv hl (by decide)
  rw [ex_bounds1] at this
  exact this
theorem ex_Bounds2 (o v : Value) (w : World) (hv : NRow w o exLs) (hl : INRow w v [3, 8, 23]) : Calls Try.prog 27 #[.agg #[.int .i64 3, o], .int .i64 0, .int .i64 3, v] w fun e w' => e = .returned (.int .i64 8) ∧ Below w.heap.size w w' := by
  have := CheckBounds_any 3 o exLs 0 3 v _ w hv hl (by decide)
  rw [ex_bounds2] at this
  exact this
theorem ex_Same (v u : Value) (l : List Int) (w : World) (hv : INRow w v l) (hu : INRow w u l) (hl : l.length ≤ 1000000) : Calls Try.prog 22 #[v, u] w fun e w' => e = .returned (.bool true) ∧ Below w.heap.size w w' := by
  have := rSameInts_any v u l l w hv hu hl hl
  rw [decide_eq_true (rfl : l = l)] at this
  exact this
theorem ints3 (W : World) (x y z : Int) : INRow (W.alloc (.cells #[.int .i64 x, .int .i64 y, .int .i64 z] 3)) (.slice (some ⟨W.heap.size, 0, none⟩) 3 3) [x, y, z] := by
  have hg := heap_alloc_new W (.cells #[.int .i64 x, .int .i64 y, .int .i64 z] 3)
  refine .inr ⟨_, 0, 3, rfl, by simp, fun i hi => ?_⟩
  have : i < 3 := hi
  rw [cellH hg]
  rcases (by omega : i = 0 ∨ i = 1 ∨ i = 2) with rfl | rfl | rfl <;> rfl
theorem ints2 (W : World) (x y : Int) : INRow (W.alloc (.cells #[.int .i64 x, .int .i64 y] 3)) (.slice (some ⟨W.heap.size, 0, none⟩) 2 2) [x, y] := by
  have hg := heap_alloc_new W (.cells #[.int .i64 x, .int .i64 y] 3)
  refine .inr ⟨_, 0, 2, rfl, by simp, fun i hi => ?_⟩
  have : i < 2 := hi
  rw [cellH hg]
  rcases (by omega : i = 0 ∨ i = 1) with rfl | rfl <;> rfl

theorem ex_open {w : World} {v : Value} (hv : NRow w v exLs) : ∃ b off oc sa sc, v = .slice (some ⟨b, off, none⟩) 3 oc ∧ b < w.heap.size ∧ w.cell? ⟨b, off, none⟩ = some (.int .i64 0) ∧ w.cell? ⟨b, off + 1, none⟩ = some (.int .i64 1) ∧ w.cell? ⟨b, off + 2, none⟩ = some (.int .i64 5) ∧
    w.cell? ⟨b, off + 3, none⟩ = some (.slice sa 2 sc) ∧ SpRow w (.slice sa 2 sc) [(0, 20), (100, 200)] := by
  obtain ⟨oa, oc, rfl, hlc⟩ := hv.row.form
  obtain ⟨b, off, rfl, hbk, c0, c1, c2, o, c3, hsp⟩ := hlc 0 (by decide)
  obtain ⟨sa, sc, rfl, _⟩ := hsp.form
  exact ⟨b, off, oc, sa, sc, rfl, hbk, c0, c1, c2, c3, hsp⟩

set_option maxRecDepth 100000 in
set_option maxHeartbeats 8000000 in
theorem nets_any (w : World) : Calls Try.prog 11 #[] w fun e w' => e = .returned (.bool true) ∧ Below w.heap.size w w' := by
  have HE := Lib.hid (example_any)
  go_enter Try.func11, Try.ntmps11
  go_wp2_with fail
  refine (HE.out _).mono ?_
  rintro e w1 ⟨v, rfl, hv, hb⟩
  have HB1 := Lib.hid hb
  obtain ⟨b, off, oc, sa, sc, rfl, hbk, c0, c1, c2, c3, hsp⟩ := ex_open hv
  have HV1 := Lib.hid hv
  have HS1 := Lib.hid hsp
  have hba := (Below.refl w1.heap.size w1).alloc (Nat.le_refl _) (.cells #[.int .i64 3, .slice (some ⟨b, off, none⟩) 3 oc] 24)
  have HBA := Lib.hid hba
  have hg0 : (w1.alloc (.cells #[.int .i64 3, .slice (some ⟨b, off, none⟩) 3 oc] 24)).heap[w1.heap.size]? = some (.cells #[.int .i64 3, .slice (some ⟨b, off, none⟩) 3 oc] 24 (0, 0)) := heap_alloc_new _ _
  have hgl : w1.heap.size < (w1.alloc (.cells #[.int .i64 3, .slice (some ⟨b, off, none⟩) 3 oc] 24)).heap.size := by simp
  -- whatever lies behind: the net, its links, the first one's cells
  have HA : Hid (∀ W, Below w1.heap.size w1 W → Below (w1.alloc (.cells #[.int .i64 3, .slice (some ⟨b, off, none⟩) 3 oc] 24)).heap.size (w1.alloc (.cells #[.int .i64 3, .slice (some ⟨b, off, none⟩) 3 oc] 24)) W →
      W.cell? ⟨w1.heap.size, 0, none⟩ = some (.int .i64 3) ∧ W.cell? ⟨w1.heap.size, 1, none⟩ = some (.slice (some ⟨b, off, none⟩) 3 oc)) := Lib.hid (fun W _ h => by
    have := (h.block _ hgl).trans hg0
    exact ⟨cellH this 0, cellH this 1⟩)
  have HK : Hid (∀ W, Below w1.heap.size w1 W → W.cell? ⟨b, off, none⟩ = some (.int .i64 0) ∧ W.cell? ⟨b, off + 1, none⟩ = some (.int .i64 1) ∧ W.cell? ⟨b, off + 2, none⟩ = some (.int .i64 5) ∧ W.cell? ⟨b, off + 3, none⟩ = some (.slice sa 2 sc)) := Lib.hid (fun W h =>
    ⟨(h.cell (p := ⟨b, _, none⟩) hbk).trans c0, (h.cell (p := ⟨b, _, none⟩) hbk).trans c1, (h.cell (p := ⟨b, _, none⟩) hbk).trans c2, (h.cell (p := ⟨b, _, none⟩) hbk).trans c3⟩)
  unfold ntV
  clear hb hv hsp HE hba hg0 hgl
  go_wp2_with fail
  refine (ex_Leave _ _ (HS1.out.keep HBA.out)).mono ?_
  rintro e w2 ⟨rfl, hb⟩
  have HB2 := Lib.hid hb
  have HC2 := Lib.hid (HBA.out.trans (hb.mono HBA.out.size))
  obtain ⟨n0, n1⟩ := HA.out w2 HC2.out HB2.out
  obtain ⟨k0, k1, k2, k3⟩ := HK.out w2 HC2.out
  clear hb c0 c1 c2 c3 hbk
  go_wp2_with fail
  refine (ex_Last _ _ (HS1.out.keep HC2.out)).mono ?_
  rintro e w3 ⟨rfl, hb⟩
  have HB3 := Lib.hid (HB2.out.trans (hb.mono HB2.out.size))
  have HC3 := Lib.hid (HC2.out.trans (hb.mono HC2.out.size))
  clear hb k0 k1 k2 k3 n0 n1
  obtain ⟨n0, n1⟩ := HA.out w3 HC3.out HB3.out
  go_wp2_with fail
  refine (ex_Earliest _ _ (HV1.out.keep HC3.out)).mono ?_
  rintro e w4 ⟨a4, p4, rfl, hi, hb⟩
  have HB4 := Lib.hid (HB3.out.trans (hb.mono HB3.out.size))
  have HC4 := Lib.hid (HC3.out.trans (hb.mono HC3.out.size))
  have HI4 := Lib.hid hi
  clear hb hi n0 n1
  obtain ⟨n0, n1⟩ := HA.out w4 HC4.out HB4.out
  go_wp2_with fail
  refine (ex_Latest _ _ (HV1.out.keep HC4.out)).mono ?_
  rintro e w5 ⟨a5, p5, rfl, hi, hb⟩
  have HB5 := Lib.hid (HB4.out.trans (hb.mono HB4.out.size))
  have HC5 := Lib.hid (HC4.out.trans (hb.mono HC4.out.size))
  have HI45 := Lib.hid (HI4.out.keep hb)
  have HI5 := Lib.hid hi
  clear hb hi n0 n1
  obtain ⟨n0, n1⟩ := HA.out w5 HC5.out HB5.out
  go_wp2_with fail
  refine (ex_Way _ _ (HV1.out.keep HC5.out)).mono ?_
  rintro e w6 ⟨a6, p6, l6, rfl, hi, hw, hb⟩
  have HB6 := Lib.hid (HB5.out.trans (hb.mono HB5.out.size))
  have HC6 := Lib.hid (HC5.out.trans (hb.mono HC5.out.size))
  have HI46 := Lib.hid (HI45.out.keep hb)
  have HI56 := Lib.hid (HI5.out.keep hb)
  have HI6 := Lib.hid hi
  have HW6 := Lib.hid hw
  clear hb hi hw n0 n1
  obtain ⟨n0, n1⟩ := HA.out w6 HC6.out HB6.out
  go_wp2_with fail
  refine (ex_CheckWay _ _ l6 _ (HV1.out.keep HC6.out) HI6.out HW6.out).mono ?_
  rintro e w7 ⟨rfl, hb⟩
  have HB7 := Lib.hid (HB6.out.trans (hb.mono HB6.out.size))
  have HC7 := Lib.hid (HC6.out.trans (hb.mono HC6.out.size))
  have HI47 := Lib.hid (HI46.out.keep hb)
  have HI57 := Lib.hid (HI56.out.keep hb)
  clear hb n0 n1
  obtain ⟨n0, n1⟩ := HA.out w7 HC7.out HB7.out
  go_wp2_with fail
  refine (ex_Needed _ _ (HV1.out.keep HC7.out)).mono ?_
  rintro e w8 ⟨a8, p8, rfl, hi, hb⟩
  have HB8 := Lib.hid (HB7.out.trans (hb.mono HB7.out.size))
  have HC8 := Lib.hid (HC7.out.trans (hb.mono HC7.out.size))
  have HI48 := Lib.hid (HI47.out.keep hb)
  have HI58 := Lib.hid (HI57.out.keep hb)
  have HI8 := Lib.hid hi
  clear hb hi n0 n1
  obtain ⟨n0, n1⟩ := HA.out w8 HC8.out HB8.out
  go_wp2_with fail
  refine (ex_Same _ _ [16, 105, -1] _ (HI48.out.keep ((Below.refl w8.heap.size w8).alloc (Nat.le_refl _) _)) (ints3 w8 16 105 (-1)) (by decide)).mono ?_
  rintro e w9 ⟨rfl, hb⟩
  have hq := ((Below.refl w8.heap.size w8).alloc (Nat.le_refl _) (.cells #[.int .i64 16, .int .i64 105, .int .i64 (-1)] 3)).trans (hb.mono (by simp))
  have HB9 := Lib.hid (HB8.out.trans (hq.mono HB8.out.size))
  have HC9 := Lib.hid (HC8.out.trans (hq.mono HC8.out.size))
  have HI59 := Lib.hid (HI58.out.keep hq)
  have HI89 := Lib.hid (HI8.out.keep hq)
  clear hb hq n0 n1
  go_wp2_with fail
  refine (ex_Same _ _ [15, 30, 60] _ (HI59.out.keep ((Below.refl w9.heap.size w9).alloc (Nat.le_refl _) _)) (ints3 w9 15 30 60) (by decide)).mono ?_
  rintro e w10 ⟨rfl, hb⟩
  have hq := ((Below.refl w9.heap.size w9).alloc (Nat.le_refl _) (.cells #[.int .i64 15, .int .i64 30, .int .i64 60] 3)).trans (hb.mono (by simp))
  have HB10 := Lib.hid (HB9.out.trans (hq.mono HB9.out.size))
  have HC10 := Lib.hid (HC9.out.trans (hq.mono HC9.out.size))
  have HI810 := Lib.hid (HI89.out.keep hq)
  clear hb hq
  go_wp2_with fail
  refine (ex_Same _ _ [0, 1] _ (HI810.out.keep ((Below.refl w10.heap.size w10).alloc (Nat.le_refl _) _)) (ints2 w10 0 1) (by decide)).mono ?_
  rintro e w11 ⟨rfl, hb⟩
  have hq := ((Below.refl w10.heap.size w10).alloc (Nat.le_refl _) (.cells #[.int .i64 0, .int .i64 1] 3)).trans (hb.mono (by simp))
  have HB11 := Lib.hid (HB10.out.trans (hq.mono HB10.out.size))
  have HC11 := Lib.hid (HC10.out.trans (hq.mono HC10.out.size))
  clear hb hq
  obtain ⟨n0, n1⟩ := HA.out w11 HC11.out HB11.out
  go_wp2_with fail
  refine (ex_Bounds1 _ _ _ (HV1.out.keep (HC11.out.trans (((Below.refl w11.heap.size w11).alloc (Nat.le_refl _) _).mono HC11.out.size))) (ints3 w11 3 8 22)).mono ?_
  rintro e w12 ⟨rfl, hb⟩
  have hq := ((Below.refl w11.heap.size w11).alloc (Nat.le_refl _) (.cells #[.int .i64 3, .int .i64 8, .int .i64 22] 3)).trans (hb.mono (by simp))
  have HB12 := Lib.hid (HB11.out.trans (hq.mono HB11.out.size))
  have HC12 := Lib.hid (HC11.out.trans (hq.mono HC11.out.size))
  clear hb hq n0 n1
  obtain ⟨n0, n1⟩ := HA.out w12 HC12.out HB12.out
  go_wp2_with fail
  refine (ex_Bounds2 _ _ _ (HV1.out.keep (HC12.out.trans (((Below.refl w12.heap.size w12).alloc (Nat.le_refl _) _).mono HC12.out.size))) (ints3 w12 3 8 23)).mono ?_
  rintro e w13 ⟨rfl, hb⟩
  have hq := ((Below.refl w12.heap.size w12).alloc (Nat.le_refl _) (.cells #[.int .i64 3, .int .i64 8, .int .i64 23] 3)).trans (hb.mono (by simp))
  have HC13 := Lib.hid (HB1.out.trans ((HC12.out.trans (hq.mono HC12.out.size)).mono HB1.out.size))
  clear hb hq n0 n1
  go_wp2_with fail
  go_ret
  exact ⟨rfl, HC13.out⟩
end Go.Proofs.Ytiboolbndfhomaa
