/- Raise of package ridge. -/
import Derived.Test.YtjllkmekchmmbaaHDA
import Derived.Test.YtjllkmekchmmbaaHD2
import Derived.Test.YtjllkmekchmmbaaHD3
set_option linter.unusedVariables false
set_option linter.unusedSimpArgs false
namespace Go.Proofs.Ytjllkmekchmmbaa
open Go Go.RowKit

def raB (wd hg : Int) (g : List Int) (p : Pl) (h : Int) : Bool := vmB wd hg g && onB wd hg p && wiB h 0 4000
/-- Where the height of a place stands. -/
def ixN (wd : Int) (p : Pl) : Nat := (p.2 * wd + p.1).toNat
/-- What Raise returns. -/
def RaOut (wd hg : Int) (g : List Int) (p : Pl) (h : Int) (w : World) (e : Ending) (w' : World) : Prop :=
  Below w.heap.size w w' ∧ (raB wd hg g p h = false → e = .returned (.tuple #[.agg #[.int .i64 0, .int .i64 0, .slice none 0 0], .int .i64 1])) ∧
    (raB wd hg g p h = true → ∃ o', e = .returned (.tuple #[mpV wd hg o', .int .i64 0]) ∧ INRow w' o' (g.set (ixN wd p) h))
set_option maxRecDepth 100000 in
set_option maxHeartbeats 4000000 in
theorem Raise_any (wd hg : Int) (o : Value) (g : List Int) (p : Pl) (h : Int) (w : World) (hv : INRow w o g) (hl : g.length ≤ 9223372036854775807) :
    Calls Try.prog 14 #[mpV wd hg o, plV p, .int .i64 h] w fun e w' => RaOut wd hg g p h w e w' := by
  obtain ⟨x, y⟩ := p
  have H1 := Lib.hid (fun w' (h : Below w.heap.size w w') => validMap_any wd hg o g w' (hv.keep h) hl)
  have H2 := Lib.hid (fun w' => On_any wd hg o (x, y) w')
  have H3 := Lib.hid (fun w' => validHeight_any h w')
  have HVV := Lib.hid hv
  have HVB : Hid (raB wd hg g (x, y) h = (vmB wd hg g && onB wd hg (x, y) && wiB h 0 4000)) := Lib.hid rfl
  unfold mpV at H1
  unfold mpV plV at H2
  unfold mpV plV
  simp only at H2 ⊢
  have HA := Lib.hid (fun W' => three_cells w #[.int .i64 wd, .int .i64 hg, o] #[.int .i64 x, .int .i64 y] #[.int .i64 0, .int .i64 0, .slice none 0 0] 24 30 24 (W := W'))
  have HB0 := Lib.hid ((((Below.refl _ w).alloc (Nat.le_refl w.heap.size) (.cells #[.int .i64 wd, .int .i64 hg, o] 24)).alloc (by simp) (.cells #[.int .i64 x, .int .i64 y] 30)).alloc (by simp; omega) (.cells #[.int .i64 0, .int .i64 0, .slice none 0 0] 24))
  obtain ⟨W1, hW1⟩ : ∃ W1, ((w.alloc (.cells #[.int .i64 wd, .int .i64 hg, o] 24)).alloc (.cells #[.int .i64 x, .int .i64 y] 30)).alloc (.cells #[.int .i64 0, .int .i64 0, .slice none 0 0] 24) = W1 := ⟨_, rfl⟩
  rw [hW1] at HA HB0
  have HW1 := Lib.hid hW1
  have ead : w.heap.size + 1 + 1 = w.heap.size + 2 := rfl
  have HRD : Hid (∀ W', Below W1.heap.size W1 W' → W'.cell? ⟨w.heap.size, 0, none⟩ = some (.int .i64 wd) ∧ W'.cell? ⟨w.heap.size, 1, none⟩ = some (.int .i64 hg) ∧ W'.cell? ⟨w.heap.size, 2, none⟩ = some o ∧ W'.cell? ⟨w.heap.size + 1, 0, none⟩ = some (.int .i64 x) ∧ W'.cell? ⟨w.heap.size + 1, 1, none⟩ = some (.int .i64 y)) := Lib.hid (fun W' h => by
    obtain ⟨m0, m1, m2, _, _⟩ := HA.out W' h
    exact ⟨cellH m0 0, cellH m0 1, cellH m0 2, cellH m1 0, cellH m1 1⟩)
  clear hW1 hv
  -- a fault: the third box is written
  have HFA : Hid (∀ W', Below W1.heap.size W1 W' → Hid (W'.cell? ⟨w.heap.size + 2, 0, none⟩ = some (.int .i64 0) ∧ W'.cell? ⟨w.heap.size + 2, 1, none⟩ = some (.int .i64 0) ∧ W'.cell? ⟨w.heap.size + 2, 2, none⟩ = some (.slice none 0 0) ∧ (∀ o, W'.frozen? ⟨w.heap.size + 2, o, none⟩ = false) ∧
      (((W'.setCell ⟨w.heap.size + 2, 0, none⟩ (.int .i64 0)).setCell ⟨w.heap.size + 2, 1, none⟩ (.int .i64 0)).setCell ⟨w.heap.size + 2, 2, none⟩ (.slice none 0 0)).heap[w.heap.size + 2]? = some (.cells #[.int .i64 0, .int .i64 0, .slice none 0 0] 24 (0, 0)) ∧
      Below w.heap.size w (((W'.setCell ⟨w.heap.size + 2, 0, none⟩ (.int .i64 0)).setCell ⟨w.heap.size + 2, 1, none⟩ (.int .i64 0)).setCell ⟨w.heap.size + 2, 2, none⟩ (.slice none 0 0)))) := Lib.hid (fun W' h => Lib.hid (by
    obtain ⟨_, _, m2, _, hb⟩ := HA.out W' h
    refine ⟨cellH m2 0, cellH m2 1, cellH m2 2, freeH m2, heap_same (heap_same (heap_same m2 0 _) 1 _) 2 _, ?_⟩
    exact ((hb.setCell (p := ⟨w.heap.size + 2, 0, none⟩) (by simp) _).setCell (p := ⟨w.heap.size + 2, 1, none⟩) (by simp) _).setCell (p := ⟨w.heap.size + 2, 2, none⟩) (by simp) _))
  cases q1 : vmB wd hg g
  · rw [q1] at H1 HVB
    have HN : Hid (raB wd hg g (x, y) h = false) := Lib.hid (by rw [HVB.out]; rfl)
    clear q1
    go_enter Try.func14, Try.ntmps14
    go_wp2_with fail
    rw [HW1.out]
    obtain ⟨p0, p1, p2, p3, p4⟩ := HRD.out W1 (Below.refl _ _)
    go_wp2_with fail
    refine (H1.out _ HB0.out).mono ?_
    rintro e w2 ⟨rfl, hb2⟩
    have HF := HFA.out w2 hb2
    obtain ⟨r0, r1, r2, rf, hh, hb⟩ := HF.out
    have HH := Lib.hid hh
    have HB := Lib.hid hb
    clear hb2 p0 p1 p2 p3 p4 hh hb HF
    go_wp2_with fail
    refine bodyPost_ret (res_two Try.results14 _ _ (w.heap.size + 2) 24 #[.int .i64 0, .int .i64 0, .slice none 0 0] (0, 0) _ rfl HH.out Try.underlying24 rfl (by kernel_rfl)) rfl ?_
    exact ⟨HB.out, fun _ => rfl, fun k => (by rw [HN.out] at k; cases k)⟩
  rw [q1] at H1 HVB
  cases q2 : onB wd hg (x, y)
  · rw [q2] at H2 HVB
    have HN : Hid (raB wd hg g (x, y) h = false) := Lib.hid (by rw [HVB.out]; rfl)
    clear q1 q2
    go_enter Try.func14, Try.ntmps14
    go_wp2_with fail
    rw [HW1.out]
    obtain ⟨p0, p1, p2, p3, p4⟩ := HRD.out W1 (Below.refl _ _)
    go_wp2_with fail
    refine (H1.out _ HB0.out).mono ?_
    rintro e w2 ⟨rfl, hb2⟩
    have HD2 := Lib.hid hb2
    clear hb2 p0 p1 p2 p3 p4
    obtain ⟨p0, p1, p2, p3, p4⟩ := HRD.out w2 HD2.out
    go_wp2_with fail
    refine (H2.out _).mono ?_
    rintro e w3 ⟨rfl, hb3⟩
    have HF := HFA.out w3 (HD2.out.trans (hb3.mono HD2.out.size))
    obtain ⟨r0, r1, r2, rf, hh, hb⟩ := HF.out
    have HH := Lib.hid hh
    have HB := Lib.hid hb
    clear hb3 p0 p1 p2 p3 p4 hh hb HF
    go_wp2_with fail
    refine bodyPost_ret (res_two Try.results14 _ _ (w.heap.size + 2) 24 #[.int .i64 0, .int .i64 0, .slice none 0 0] (0, 0) _ rfl HH.out Try.underlying24 rfl (by kernel_rfl)) rfl ?_
    exact ⟨HB.out, fun _ => rfl, fun k => (by rw [HN.out] at k; cases k)⟩
  rw [q2] at H2 HVB
  cases q3 : wiB h 0 4000
  · rw [q3] at H3 HVB
    have HN : Hid (raB wd hg g (x, y) h = false) := Lib.hid (by rw [HVB.out]; rfl)
    clear q1 q2 q3
    go_enter Try.func14, Try.ntmps14
    go_wp2_with fail
    rw [HW1.out]
    obtain ⟨p0, p1, p2, p3, p4⟩ := HRD.out W1 (Below.refl _ _)
    go_wp2_with fail
    refine (H1.out _ HB0.out).mono ?_
    rintro e w2 ⟨rfl, hb2⟩
    have HD2 := Lib.hid hb2
    clear hb2 p0 p1 p2 p3 p4
    obtain ⟨p0, p1, p2, p3, p4⟩ := HRD.out w2 HD2.out
    go_wp2_with fail
    refine (H2.out _).mono ?_
    rintro e w3 ⟨rfl, hb3⟩
    have HD3 := Lib.hid (HD2.out.trans (hb3.mono HD2.out.size))
    clear hb3 p0 p1 p2 p3 p4
    go_wp2_with fail
    refine (H3.out _).mono ?_
    rintro e w4 ⟨rfl, rfl⟩
    have HF := HFA.out w4 HD3.out
    obtain ⟨r0, r1, r2, rf, hh, hb⟩ := HF.out
    have HH := Lib.hid hh
    have HB := Lib.hid hb
    clear hh hb HF
    go_wp2_with fail
    refine bodyPost_ret (res_two Try.results14 _ _ (w.heap.size + 2) 24 #[.int .i64 0, .int .i64 0, .slice none 0 0] (0, 0) _ rfl HH.out Try.underlying24 rfl (by kernel_rfl)) rfl ?_
    exact ⟨HB.out, fun _ => rfl, fun k => (by rw [HN.out] at k; cases k)⟩
  rw [q3] at H3 HVB
  have HN : Hid (raB wd hg g (x, y) h = true) := Lib.hid (by rw [HVB.out]; rfl)
  obtain ⟨x1, x2, x3, x4⟩ := on_idx q1 q2
  simp only at x1 x2 x3 x4
  have hgl : 0 < g.length := by omega
  obtain ⟨a0, c0, rfl, hcc⟩ := HVV.out.form
  obtain ⟨gb, go, rfl, hgb, _⟩ := hcc 0 hgl
  have HCL := Lib.hid (fun w' (hb : Below w.heap.size w w') => iclone_any gb go g.length c0 g w' rfl (by omega) (fun j hj => by
    obtain ⟨b', o', e', hb', hc'⟩ := hcc j hj
    cases e'
    exact (hb.cell (p := ⟨gb, _, none⟩) hb').trans hc'))
  obtain ⟨k, hk⟩ : ∃ k : Nat, y * wd + x = k := ⟨(y * wd + x).toNat, by omega⟩
  have hkl : k < g.length := by omega
  have HIX : Hid (ixN wd (x, y) = k) := Lib.hid (by unfold ixN; simp only; omega)
  have HIO : Hid (∀ (o : Value) w', Calls Try.prog 51 #[.agg #[.int .i64 wd, .int .i64 hg, o], .agg #[.int .i64 x, .int .i64 y]] w' fun e w'' => e = .returned (.int .i64 k) ∧ Below w'.heap.size w' w'') := Lib.hid (fun o w' => by
    have := indexOf_any wd hg o (x, y) w' (by simp only; omega) (by simp only; omega)
    rw [show ((x, y) : Pl).2 * wd + ((x, y) : Pl).1 = (k : Int) from hk] at this
    exact this)
  have hki : (k : Int) < g.length := by omega
  have hk0 : (0 : Int) ≤ k := by omega
  clear q1 q2 q3 x1 x2 x3 x4 hgl hcc hgb hk
  go_enter Try.func14, Try.ntmps14
  go_wp2_with fail
  rw [HW1.out]
  obtain ⟨p0, p1, p2, p3, p4⟩ := HRD.out W1 (Below.refl _ _)
  go_wp2_with fail
  refine (H1.out _ HB0.out).mono ?_
  rintro e w2 ⟨rfl, hb2⟩
  have HD2 := Lib.hid hb2
  clear hb2 p0 p1 p2 p3 p4
  obtain ⟨p0, p1, p2, p3, p4⟩ := HRD.out w2 HD2.out
  go_wp2_with fail
  refine (H2.out _).mono ?_
  rintro e w3 ⟨rfl, hb3⟩
  have HD3 := Lib.hid (HD2.out.trans (hb3.mono HD2.out.size))
  clear hb3 p0 p1 p2 p3 p4
  go_wp2_with fail
  refine (H3.out _).mono ?_
  rintro e w4 ⟨rfl, rfl⟩
  obtain ⟨p0, p1, p2, p3, p4⟩ := HRD.out w4 HD3.out
  have HB4 := Lib.hid (HB0.out.trans (HD3.out.mono HB0.out.size))
  go_wp2_with fail
  refine (HCL.out _ HB4.out).mono ?_
  rintro e w5 ⟨v5, rfl, hown, hb5⟩
  have HD5 := Lib.hid (HD3.out.trans (hb5.mono HD3.out.size))
  obtain ⟨nb, nc, cur, rfl, hng, hcur, hct⟩ : ∃ nb nc cur, v5 = .slice (some ⟨nb, 0, none⟩) g.length nc ∧ w4.heap.size ≤ nb ∧ w5.heap[nb]? = some (.cells cur 3 (0, 0)) ∧ cur.toList.take g.length = g.map (Value.int .i64 ·) := by
    rcases hown.2 with ⟨_, hz⟩ | ⟨nb, nc, cur, e1, e2, e3, _, _, _, e7⟩
    · omega
    · exact ⟨nb, nc, cur, e1, e2, e3, by simpa using e7⟩
  have HCT := Lib.hid hct
  obtain ⟨m0, m1, m2, hs5, hbw5⟩ := HA.out w5 HD5.out
  have hsz4 : w.heap.size + 2 < w4.heap.size := (HA.out w4 HD3.out).2.2.2.1
  have hnn : nb ≠ w.heap.size := by omega
  have hnn1 : nb ≠ w.heap.size + 1 := by omega
  have hnn2 : nb ≠ w.heap.size + 2 := by omega
  clear p0 p1 p2 p3 p4 hown hb5 hct
  have hf5 := freeH m0
  obtain ⟨W6, hW6⟩ : ∃ W6, w5.setCell ⟨w.heap.size, 2, none⟩ (.slice (some ⟨nb, 0, none⟩) g.length nc) = W6 := ⟨_, rfl⟩
  have HM6 : Hid (W6.heap[w.heap.size]? = some (.cells #[.int .i64 wd, .int .i64 hg, .slice (some ⟨nb, 0, none⟩) g.length nc] 24 (0, 0))) := Lib.hid (by rw [← hW6]; exact heap_same m0 2 _)
  have HP6 : Hid (W6.heap[w.heap.size + 1]? = some (.cells #[.int .i64 x, .int .i64 y] 30 (0, 0))) := Lib.hid (by rw [← hW6]; exact (heap_other _ _ _ _ _ (by omega)).trans m1)
  have HR6 : Hid (W6.heap[w.heap.size + 2]? = some (.cells #[.int .i64 0, .int .i64 0, .slice none 0 0] 24 (0, 0))) := Lib.hid (by rw [← hW6]; exact (heap_other _ _ _ _ _ (by omega)).trans m2)
  have HC6 : Hid (W6.heap[nb]? = some (.cells cur 3 (0, 0))) := Lib.hid (by rw [← hW6]; exact (heap_other _ _ _ _ _ hnn).trans hcur)
  have HBW6 : Hid (Below w.heap.size w W6) := Lib.hid (by rw [← hW6]; exact hbw5.setCell (p := ⟨w.heap.size, 2, none⟩) (by simp) _)
  have t0 := cellH m0 0
  have t1 := cellH m0 1
  have t2 := cellH m0 2
  simp at t0 t1 t2
  clear m0 m1 m2 hcur hbw5
  go_wp2_with fail
  clear t0 t1 t2 hf5 hW6
  have K0 : Hid (∀ W', Below W6.heap.size W6 W' → W'.cell? ⟨w.heap.size, 0, none⟩ = some (.int .i64 wd) ∧ W'.cell? ⟨w.heap.size, 1, none⟩ = some (.int .i64 hg) ∧ W'.cell? ⟨w.heap.size, 2, none⟩ = some (.slice (some ⟨nb, 0, none⟩) g.length nc) ∧ W'.cell? ⟨w.heap.size + 1, 0, none⟩ = some (.int .i64 x) ∧ W'.cell? ⟨w.heap.size + 1, 1, none⟩ = some (.int .i64 y)) := Lib.hid (fun W' hb => by
    have m0 := (hb.block _ (Array.getElem?_eq_some_iff.1 HM6.out).1).trans HM6.out
    have m1 := (hb.block _ (Array.getElem?_eq_some_iff.1 HP6.out).1).trans HP6.out
    exact ⟨cellH m0 0, cellH m0 1, cellH m0 2, cellH m1 0, cellH m1 1⟩)
  have CN : Hid (∀ w', Below W6.heap.size W6 w' → Calls Try.prog 51 #[.agg #[.int .i64 wd, .int .i64 hg, .slice (some ⟨nb, 0, none⟩) g.length nc], .agg #[.int .i64 x, .int .i64 y]] w' fun e w'' => e = .returned (.int .i64 k) ∧ Below W6.heap.size W6 w'') := Lib.hid (fun w' hb => (HIO.out _ w').mono fun e w'' ⟨he, hb'⟩ => ⟨he, hb.trans (hb'.mono hb.size)⟩)
  refine wp_region_turn 7 (fun _ w' => Below W6.heap.size W6 w') (by kernel_rfl) (by kernel_rfl) ((Below.refl _ W6).drew) ?_
  simp only [List.take_succ_cons, List.take_zero, List.drop_succ_cons, List.drop_zero]
  iterate 7
    (first
      | (apply turnC_step (by rfl); (intro w' hw'; go_simp; exact CN.out w' hw'))
      | (apply turnC_step (by rfl); (intro w' hw'; obtain ⟨q0, q1, q2, q3, q4⟩ := K0.out w' hw'; go_simp; first | exact ⟨hw', rfl⟩ | exact rfl)))
    simp only [Act.put, List.setIfInBounds_toArray, List.set_cons_succ, List.set_cons_zero]
  intro listed w7 _ hw7
  have HB7 := Lib.hid (HBW6.out.trans (hw7.mono HBW6.out.size))
  have m0 := (hw7.block _ (Array.getElem?_eq_some_iff.1 HM6.out).1).trans HM6.out
  have m2 := (hw7.block _ (Array.getElem?_eq_some_iff.1 HR6.out).1).trans HR6.out
  have mc := (hw7.block _ (Array.getElem?_eq_some_iff.1 HC6.out).1).trans HC6.out
  have hck : cur[k]? = some (.int .i64 (g.getD k 0)) := by
    have h1 : (cur.toList.take g.length)[k]? = some (.int .i64 (g.getD k 0)) := by
      rw [HCT.out]; simp [List.getD_eq_getElem?_getD, hkl]
    rw [List.getElem?_take_of_lt hkl, Array.getElem?_toList] at h1
    exact h1
  have nf := freeH mc
  have n0 : w7.cell? ⟨nb, k, none⟩ = some (.int .i64 (g.getD k 0)) := by rw [cellH mc]; exact hck
  obtain ⟨W8, hW8⟩ : ∃ W8, w7.setCell ⟨nb, k, none⟩ (.int .i64 h) = W8 := ⟨_, rfl⟩
  have HM8 : W8.heap[w.heap.size]? = some (.cells #[.int .i64 wd, .int .i64 hg, .slice (some ⟨nb, 0, none⟩) g.length nc] 24 (0, 0)) := by rw [← hW8]; exact (heap_other _ _ _ _ _ (fun e => hnn e.symm)).trans m0
  have HR8 : W8.heap[w.heap.size + 2]? = some (.cells #[.int .i64 0, .int .i64 0, .slice none 0 0] 24 (0, 0)) := by rw [← hW8]; exact (heap_other _ _ _ _ _ (fun e => hnn2 e.symm)).trans m2
  have HC8 : W8.heap[nb]? = some (.cells (cur.setIfInBounds k (.int .i64 h)) 3 (0, 0)) := by rw [← hW8]; exact heap_same mc k _
  have HB8 : Below w.heap.size w W8 := by rw [← hW8]; exact HB7.out.setCell (p := ⟨nb, k, none⟩) (by simp; omega) _
  have t0 := cellH HM8 0
  have t1 := cellH HM8 1
  have t2 := cellH HM8 2
  have u0 := cellH HR8 0
  have u1 := cellH HR8 1
  have u2 := cellH HR8 2
  have uf := freeH HR8
  simp at t0 t1 t2 u0 u1 u2
  have HH := Lib.hid (heap_same (heap_same (heap_same HR8 0 (.int .i64 wd)) 1 (.int .i64 hg)) 2 (.slice (some ⟨nb, 0, none⟩) g.length nc))
  have HBF := Lib.hid (((HB8.setCell (p := ⟨w.heap.size + 2, 0, none⟩) (by simp) (.int .i64 wd)).setCell (p := ⟨w.heap.size + 2, 1, none⟩) (by simp) (.int .i64 hg)).setCell (p := ⟨w.heap.size + 2, 2, none⟩) (by simp) (.slice (some ⟨nb, 0, none⟩) g.length nc))
  have HROW : Hid (INRow (((W8.setCell ⟨w.heap.size + 2, 0, none⟩ (.int .i64 wd)).setCell ⟨w.heap.size + 2, 1, none⟩ (.int .i64 hg)).setCell ⟨w.heap.size + 2, 2, none⟩ (.slice (some ⟨nb, 0, none⟩) g.length nc)) (.slice (some ⟨nb, 0, none⟩) g.length nc) (g.set k h)) := Lib.hid (by
    have hc9 := (heap_other _ _ 2 (.slice (some ⟨nb, 0, none⟩) g.length nc) _ hnn2).trans ((heap_other _ _ 1 (.int .i64 hg) _ hnn2).trans ((heap_other W8 _ 0 (.int .i64 wd) _ hnn2).trans HC8))
    refine .inr ⟨nb, 0, nc, by rw [List.length_set], (Array.getElem?_eq_some_iff.1 hc9).1, fun i hi => ?_⟩
    rw [List.length_set] at hi
    have h1 : (cur.toList.take g.length)[i]? = some (.int .i64 (g.getD i 0)) := by
      rw [HCT.out]; simp [List.getD_eq_getElem?_getD, hi]
    rw [List.getElem?_take_of_lt hi, Array.getElem?_toList] at h1
    rw [Nat.zero_add, cellH hc9, Array.getElem?_setIfInBounds]
    by_cases e : k = i
    · subst e
      have hks : k < cur.size := (Array.getElem?_eq_some_iff.1 h1).1
      rw [if_pos rfl, if_pos hks, List.getD_eq_getElem?_getD, List.getElem?_set_self hi]; rfl
    · rw [if_neg e, h1, List.getD_eq_getElem?_getD, List.getD_eq_getElem?_getD, List.getElem?_set_ne e])
  clear m0 m2 mc hck hw7 HM8 HR8 HC8 HB8 K0 CN
  go_wp2_with fail
  refine bodyPost_ret (res_two Try.results14 _ _ (w.heap.size + 2) 24 #[.int .i64 wd, .int .i64 hg, .slice (some ⟨nb, 0, none⟩) g.length nc] (0, 0) _ rfl HH.out Try.underlying24 rfl (by kernel_rfl)) rfl ?_
  exact ⟨HBF.out, fun k => (by rw [HN.out] at k; cases k), fun _ => ⟨_, rfl, by rw [HIX.out]; exact HROW.out⟩⟩
end Go.Proofs.Ytjllkmekchmmbaa
