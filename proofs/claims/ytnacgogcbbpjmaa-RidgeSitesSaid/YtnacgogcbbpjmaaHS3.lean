/- The reference's Best. -/
import Derived.Test.YtnacgogcbbpjmaaHS1
import Derived.Test.YtnacgogcbbpjmaaHR0
set_option linter.unusedVariables false
set_option linter.unusedSimpArgs false
namespace Go.Proofs.Ytnacgogcbbpjmaa
open Go Go.RowKit

theorem fxF_first {x : Int} : ∀ {l : List Int} {j k : Nat}, j < l.length → l.getD j 0 = x → (∀ i, i < j → l.getD i 0 ≠ x) → fxF x l k = ((k + j : Nat) : Int)
  | [], j, k, h, _, _ => by simp at h
  | a :: l, 0, k, _, h, _ => by
    rw [fxF, if_pos (by simpa using h)]; rfl
  | a :: l, j + 1, k, h, h1, h2 => by
    have ha : a ≠ x := by have := h2 0 (by omega); simpa using this
    rw [fxF, if_neg ha, fxF_first (j := j) (by simpa using h) (by simpa using h1) (fun i hi => by have := h2 (i + 1) (by omega); simpa using this)]
    congr 1; omega
theorem foldl_max_is : ∀ {l : List Int} {a m : Int}, a ≤ m → (∀ x ∈ l, x ≤ m) → (a = m ∨ m ∈ l) → l.foldl max a = m
  | [], a, m, _, _, h => by rcases h with h | h; exact h; cases h
  | b :: l, a, m, h1, h2, h3 => by
    rw [List.foldl_cons]
    have hb := h2 b (by simp)
    refine foldl_max_is (by omega) (fun x hx => h2 x (by simp [hx])) ?_
    rcases h3 with h | h
    · left; omega
    · rcases List.mem_cons.1 h with h | h
      · left; omega
      · right; exact h
/-- The best place so far, of the first k. -/
def BsF (wd : Int) (G : Nat → Int) (k : Nat) (x y n : Int) : Prop :=
  (k = 0 ∧ x = 0 ∧ y = 0 ∧ n = -1) ∨ ∃ j, j < k ∧ x = (plI wd j).1 ∧ y = (plI wd j).2 ∧ n = G j ∧ (∀ i, i < k → G i ≤ n) ∧ ∀ i, i < j → G i < n
theorem BsF.better {wd : Int} {G : Nat → Int} {k : Nat} {x y n : Int} (h : BsF wd G k x y n) (hb : n < G k) : BsF wd G (k + 1) (plI wd k).1 (plI wd k).2 (G k) := by
  refine .inr ⟨k, by omega, rfl, rfl, rfl, fun i hi => ?_, fun i hi => ?_⟩
  · by_cases e : i = k
    · subst e; exact Int.le_refl _
    · rcases h with ⟨h, _⟩ | ⟨j, _, _, _, _, h, _⟩
      · omega
      · have := h i (by omega); omega
  · rcases h with ⟨h, _⟩ | ⟨j, _, _, _, _, h, _⟩
    · omega
    · have := h i (by omega); omega
theorem BsF.not {wd : Int} {G : Nat → Int} {k : Nat} {x y n : Int} (h : BsF wd G k x y n) (hb : ¬ n < G k) (h0 : 0 ≤ G k) : BsF wd G (k + 1) x y n := by
  rcases h with ⟨_, _, _, h⟩ | ⟨j, h1, h2, h3, h4, h5, h6⟩
  · omega
  · refine .inr ⟨j, by omega, h2, h3, h4, fun i hi => ?_, h6⟩
    by_cases e : i = k
    · subst e; omega
    · exact h5 i (by omega)
theorem BsF.is {g : List Int} {wd : Int} {T : List Tw} {height rise far x y n : Int} {G : Nat → Int} (hG : ∀ k, G k = (gnC g wd ⟨0, (plI wd k).1, (plI wd k).2, height⟩ rise far (nsL g wd T rise far g.length) : Int)) (h : BsF wd G g.length x y n) (hg : 0 < g.length) :
    ∃ k, k < g.length ∧ beK g wd T height rise far = ((k : Nat) : Int) ∧ x = (plI wd k).1 ∧ y = (plI wd k).2 ∧ n = beN g wd T height rise far := by
  rcases h with ⟨h, _⟩ | ⟨j, h1, h2, h3, h4, h5, h6⟩
  · omega
  · have hlen := gnL_len g wd height rise far (nsL g wd T rise far g.length) g.length
    have hget : ∀ i, i < g.length → (gnL g wd height rise far (nsL g wd T rise far g.length) g.length).getD i 0 = G i := fun i hi => by
      rw [hG]; unfold gnL; simp [hi]
    have hmem : ∀ a, a ∈ gnL g wd height rise far (nsL g wd T rise far g.length) g.length → ∃ i, i < g.length ∧ a = G i := fun a ha => by
      unfold gnL at ha
      obtain ⟨i, hi, rfl⟩ := List.mem_map.1 ha
      exact ⟨i, by simpa using hi, (hG i).symm⟩
    have hin : ∀ i, i < g.length → G i ∈ gnL g wd height rise far (nsL g wd T rise far g.length) g.length := fun i hi => by
      unfold gnL
      exact List.mem_map.2 ⟨i, by simpa using hi, (hG i).symm⟩
    have hN : beN g wd T height rise far = n := by
      unfold beN
      refine foldl_max_is (by rw [h4, hG]; omega) (fun a ha => ?_) (.inr (by rw [h4]; exact hin j h1))
      obtain ⟨i, hi, rfl⟩ := hmem a ha
      exact h5 i hi
    refine ⟨j, h1, ?_, h2, h3, hN.symm⟩
    unfold beK
    rw [hN, fxF_first (j := j) (by rw [hlen]; exact h1) (by rw [hget j h1, h4]) (fun i hi => by rw [hget i (by omega)]; have := h6 i hi; omega), Nat.zero_add]
theorem info_site : (Try.prog.info? 37).map (·.size) = some 4 := by kernel_rfl
theorem four_set {w : World} {b : Nat} {a0 a1 a2 a3 : Value} {t : TypeId} (h : w.heap[b]? = some (.cells #[a0, a1, a2, a3] t (0, 0))) (c0 c1 c2 c3 : Value) : ((((w.setCell ⟨b, 0, none⟩ c0).setCell ⟨b, 1, none⟩ c1).setCell ⟨b, 2, none⟩ c2).setCell ⟨b, 3, none⟩ c3).heap[b]? = some (.cells #[c0, c1, c2, c3] t (0, 0)) :=
  heap_same (heap_same (heap_same (heap_same h 0 _) 1 _) 2 _) 3 _
theorem four_below {B b : Nat} {w0 w : World} (h : Below B w0 w) (hb : B ≤ b) (c0 c1 c2 c3 : Value) : Below B w0 ((((w.setCell ⟨b, 0, none⟩ c0).setCell ⟨b, 1, none⟩ c1).setCell ⟨b, 2, none⟩ c2).setCell ⟨b, 3, none⟩ c3) :=
  (((h.setCell (p := ⟨b, 0, none⟩) hb _).setCell (p := ⟨b, 1, none⟩) hb _).setCell (p := ⟨b, 2, none⟩) hb _).setCell (p := ⟨b, 3, none⟩) hb _
/-- The box of the best place, the newest block but for what calls made. -/
def BsR (Wb wr : World) (x y n : Int) : Prop := Below Wb.heap.size Wb wr ∧ wr.heap[Wb.heap.size]? = some (Obj.cells #[.int .i64 x, .int .i64 y, .int .i64 n, .int .i64 0] 37 (0, 0))
theorem BsR.keep {Wb wr wr' : World} {x y n : Int} (h : BsR Wb wr x y n) (hb : Below wr.heap.size wr wr') : BsR Wb wr' x y n := by
  have hlt := (Array.getElem?_eq_some_iff.1 h.2).1
  exact ⟨h.1.trans (hb.mono (by omega)), (hb.block _ hlt).trans h.2⟩
theorem BsR.set {Wb wr : World} {x y n : Int} (h : BsR Wb wr x y n) (a b c : Int) : BsR Wb ((((wr.setCell ⟨Wb.heap.size, 0, none⟩ (.int .i64 a)).setCell ⟨Wb.heap.size, 1, none⟩ (.int .i64 b)).setCell ⟨Wb.heap.size, 2, none⟩ (.int .i64 c)).setCell ⟨Wb.heap.size, 3, none⟩ (.int .i64 0)) a b c :=
  ⟨four_below h.1 (Nat.le_refl _) _ _ _ _, four_set h.2 _ _ _ _⟩
theorem BsR.start (W : World) : BsR W (W.alloc (.cells #[.int .i64 0, .int .i64 0, .int .i64 0, .int .i64 0] 37)) 0 0 0 :=
  ⟨(Below.refl _ W).alloc (Nat.le_refl _) _, heap_alloc_new _ _⟩
/-- What the reference's Best returns. -/
def BsOut (wd hg : Int) (g : List Int) (T : List Tw) (H : List Hz) (height rise tick : Int) (w : World) (e : Ending) (w' : World) : Prop :=
  ∃ x y n, e = .returned (.agg #[.int .i64 x, .int .i64 y, .int .i64 n, .int .i64 (beE wd hg g T H height rise tick)]) ∧ Below w.heap.size w w' ∧ (beE wd hg g T H height rise tick ≠ 0 → x = 0 ∧ y = 0 ∧ n = 0) ∧
    (beE wd hg g T H height rise tick = 0 → ∃ k : Nat, k < g.length ∧ beK g wd T height rise (faO H tick) = k ∧ x = (plI wd k).1 ∧ y = (plI wd k).2 ∧ n = beN g wd T height rise (faO H tick))
set_option maxRecDepth 100000 in
set_option maxHeartbeats 8000000 in
theorem rBest_any (wd hg : Int) (o tv hv : Value) (g : List Int) (T : List Tw) (H : List Hz) (height rise tick : Int) (w : World) (ho : INRow w o g) (hl : g.length ≤ 9223372036854775807) (ht : TwRow w tv T) (htl : T.length ≤ 9223372036854775807) (hh : HzRow w hv H) (hhl : H.length ≤ 9223372036854775807) :
    Calls Try.prog 8 #[coV wd hg o tv hv, .int .i64 height, .int .i64 rise, .int .i64 tick] w fun e w' => BsOut wd hg g T H height rise tick w e w' := by
  have HCV := Lib.hid (fun w' (h : Below w.heap.size w w') => timed_any wd hg o tv hv g T H rise tick w' (ho.keep h) hl (ht.keep h) htl (hh.keep h) hhl)
  have HVT := Lib.hid (rtall_any height)
  have HGA := Lib.hid (fun ti tx ty w' (h : Below w.heap.size w w') hck hri hon hth => rGain_any wd hg o tv hv g T H ti tx ty height rise tick w' (ho.keep h) (ht.keep h) (hh.keep h) hck hri hon hth)
  obtain ⟨oa, oc, rfl, _⟩ := ho.form
  have HA : Hid (∀ W', Below ((w.alloc (.cells #[.int .i64 wd, .int .i64 hg, .slice oa g.length oc, tv, hv] 28)).alloc (.cells #[.int .i64 0, .int .i64 0, .int .i64 0, .int .i64 0] 37)).heap.size ((w.alloc (.cells #[.int .i64 wd, .int .i64 hg, .slice oa g.length oc, tv, hv] 28)).alloc (.cells #[.int .i64 0, .int .i64 0, .int .i64 0, .int .i64 0] 37)) W' → W'.cell? ⟨w.heap.size, 0, none⟩ = some (.int .i64 wd) ∧ W'.cell? ⟨w.heap.size, 1, none⟩ = some (.int .i64 hg) ∧ W'.cell? ⟨w.heap.size, 2, none⟩ = some (.slice oa g.length oc) ∧ W'.cell? ⟨w.heap.size, 3, none⟩ = some tv ∧ W'.cell? ⟨w.heap.size, 4, none⟩ = some hv ∧ W'.heap[w.heap.size + 1]? = some (Obj.cells #[.int .i64 0, .int .i64 0, .int .i64 0, .int .i64 0] 37 (0, 0)) ∧ Below w.heap.size w W') := Lib.hid (fun W' h => by
    obtain ⟨a, b, _, d⟩ := two_cells w _ _ _ _ h
    exact ⟨cellH a 0, cellH a 1, cellH a 2, cellH a 3, cellH a 4, b, d⟩)
  obtain ⟨W1, hW1⟩ : ∃ X, (w.alloc (.cells #[.int .i64 wd, .int .i64 hg, .slice oa g.length oc, tv, hv] 28)).alloc (.cells #[.int .i64 0, .int .i64 0, .int .i64 0, .int .i64 0] 37) = X := ⟨_, rfl⟩
  rw [hW1] at HA
  have HW1 := Lib.hid hW1
  have HRD := HA
  have HB0 := Lib.hid (HA.out W1 (Below.refl _ _)).2.2.2.2.2.2
  have HS1 : Hid (W1.heap.size = w.heap.size + 2) := Lib.hid (by rw [← hW1]; simp)
  clear hW1 HA ho ht hh hl htl hhl
  unfold BsOut
  by_cases hE : beE wd hg g T H height rise tick = 0
  case neg =>
    unfold beE at hE ⊢
    unfold coV at HCV
    unfold coV
    clear HGA
    by_cases hE0 : cvE wd hg g T H rise tick = 0
    · obtain ⟨hck, _⟩ := cvE_ok hE0
      obtain ⟨hm, _⟩ := ckE_ok hck
      rw [hE0] at HCV
      rw [if_pos hE0] at hE ⊢
      cases qh : wiB height 0 200
      · rw [qh] at HVT
        rw [if_neg (by decide)]
        clear qh hE hck hm hE0
        go_enter Try.func8, Try.ntmps8
        go_wp2_with fail
        rw [HW1.out]
        obtain ⟨q0, q1, q2, q3, q4, _, _⟩ := HRD.out W1 (Below.refl _ _)
        go_wp2_with fail
        refine (HCV.out _ HB0.out).mono ?_
        rintro e w2 ⟨rfl, hb2⟩
        have HD2 := Lib.hid hb2
        clear hb2 q0 q1 q2 q3 q4
        go_wp2_with fail
        refine (HVT.out _).mono ?_
        rintro e w3 ⟨rfl, rfl⟩
        obtain ⟨q0, q1, q2, q3, q4, hr, hb3⟩ := HRD.out w3 HD2.out
        have HN := Lib.hid hr
        have HB3 := Lib.hid hb3
        have x0 := cellH hr 0
        have x1 := cellH hr 1
        have x2 := cellH hr 2
        have x3 := cellH hr 3
        have xf := freeH hr
        simp at x0 x1 x2 x3
        clear hb3 hr q0 q1 q2 q3 q4
        go_wp2_with fail
        refine bodyPost_ret (results_cell_row Try.results8 _ _ (w.heap.size + 1) 37 #[.int .i64 0, .int .i64 0, .int .i64 0, .int .i64 1] (0, 0) _ rfl (four_set HN.out _ _ _ _) Try.underlying37 rfl info_site) rfl ?_
        exact ⟨_, _, _, rfl, four_below HB3.out (by omega) _ _ _ _, fun _ => ⟨rfl, rfl, rfl⟩, fun h => absurd h (by decide)⟩
      · rw [qh] at HVT
        rw [if_pos qh] at hE
        have hgl : ¬ g.length ≤ 200 := fun h => hE (if_pos h)
        rw [if_pos rfl, if_neg hgl]
        have hq200 : decide (200 < (g.length : Int)) = true := by simp; omega
        have hq3 : (200 : Int) < g.length := by omega
        obtain ⟨a1, a2, a3, a4, a5, _⟩ := vmB_ok hm
        obtain ⟨wn, rfl⟩ : ∃ n : Nat, wd = n := ⟨wd.toNat, by omega⟩
        obtain ⟨hn, rfl⟩ : ∃ n : Nat, hg = n := ⟨hg.toNat, by omega⟩
        have hgl2 : g.length = hn * wn := by
          rw [← Int.natCast_mul] at a5
          rw [Nat.mul_comm]; exact Int.natCast_inj.1 a5
        have HWH := Lib.hid (fun w' => by have h2 := rwhole_any wn hn (.slice oa g.length oc) w' (by omega) (by omega) ⟨_, _, _, rfl⟩; rw [← hgl2] at h2; exact h2)
        clear qh hE hck hm hE0 a1 a2 a3 a4 a5 hgl2 hgl
        go_enter Try.func8, Try.ntmps8
        go_wp2_with fail
        rw [HW1.out]
        obtain ⟨q0, q1, q2, q3, q4, _, _⟩ := HRD.out W1 (Below.refl _ _)
        go_wp2_with fail
        refine (HCV.out _ HB0.out).mono ?_
        rintro e w2 ⟨rfl, hb2⟩
        have HD2 := Lib.hid hb2
        clear hb2 q0 q1 q2 q3 q4
        go_wp2_with fail
        refine (HVT.out _).mono ?_
        rintro e w3 ⟨rfl, rfl⟩
        obtain ⟨q0, q1, q2, q3, q4, _, _⟩ := HRD.out w3 HD2.out
        go_wp2_with fail
        refine (HWH.out _).mono ?_
        rintro e w5 ⟨v5, rfl, hb5, hown⟩
        have HD5 := Lib.hid (HD2.out.trans (hb5.mono HD2.out.size))
        obtain ⟨pa, pc, rfl⟩ := row_form hown
        clear hb5 hown q0 q1 q2 q3 q4
        obtain ⟨q0, q1, q2, q3, q4, hr, hb3⟩ := HRD.out w5 HD5.out
        have HN := Lib.hid hr
        have HB3 := Lib.hid hb3
        have x0 := cellH hr 0
        have x1 := cellH hr 1
        have x2 := cellH hr 2
        have x3 := cellH hr 3
        have xf := freeH hr
        simp at x0 x1 x2 x3
        clear hb3 hr q0 q1 q2 q3 q4
        go_wp2_with fail
        refine bodyPost_ret (results_cell_row Try.results8 _ _ (w.heap.size + 1) 37 #[.int .i64 0, .int .i64 0, .int .i64 0, .int .i64 2] (0, 0) _ rfl (four_set HN.out _ _ _ _) Try.underlying37 rfl info_site) rfl ?_
        exact ⟨_, _, _, rfl, four_below HB3.out (by omega) _ _ _ _, fun _ => ⟨rfl, rfl, rfl⟩, fun h => absurd h (by decide)⟩
    · obtain ⟨E, hEE⟩ : ∃ x, cvE wd hg g T H rise tick = x := ⟨_, rfl⟩
      rw [hEE] at HCV hE hE0 ⊢
      clear hEE
      rw [if_neg hE0] at hE ⊢
      have qe : (E != 0) = true := by simpa using hE0
      have HE0 := Lib.hid hE0
      clear hE hE0
      go_enter Try.func8, Try.ntmps8
      go_wp2_with fail
      rw [HW1.out]
      obtain ⟨q0, q1, q2, q3, q4, _, _⟩ := HRD.out W1 (Below.refl _ _)
      go_wp2_with fail
      refine (HCV.out _ HB0.out).mono ?_
      rintro e w3 ⟨rfl, hb2⟩
      clear q0 q1 q2 q3 q4
      obtain ⟨q0, q1, q2, q3, q4, hr, hb3⟩ := HRD.out w3 hb2
      have HN := Lib.hid hr
      have HB3 := Lib.hid hb3
      have x0 := cellH hr 0
      have x1 := cellH hr 1
      have x2 := cellH hr 2
      have x3 := cellH hr 3
      have xf := freeH hr
      simp at x0 x1 x2 x3
      clear hb3 hb2 hr q0 q1 q2 q3 q4
      go_wp2_with fail
      refine bodyPost_ret (results_cell_row Try.results8 _ _ (w.heap.size + 1) 37 #[.int .i64 0, .int .i64 0, .int .i64 0, .int .i64 E] (0, 0) _ rfl (four_set HN.out _ _ _ _) Try.underlying37 rfl info_site) rfl ?_
      exact ⟨_, _, _, rfl, four_below HB3.out (by omega) _ _ _ _, fun _ => ⟨rfl, rfl, rfl⟩, fun h => absurd h HE0.out⟩
  rw [hE]
  have hcv : cvE wd hg g T H rise tick = 0 := by
    unfold beE at hE; split at hE
    · assumption
    · rename_i h; exact absurd hE h
  rw [beE, if_pos hcv] at hE
  have hwi : wiB height 0 200 = true := by split at hE; assumption; cases hE
  rw [if_pos hwi] at hE
  have hg2 : g.length ≤ 200 := by split at hE; assumption; cases hE
  obtain ⟨hck, hri⟩ := cvE_ok hcv
  obtain ⟨hm, _⟩ := ckE_ok hck
  have hhe : 0 ≤ height ∧ height ≤ 200 := by
    unfold wiB at hwi; simpa using hwi
  rw [hcv] at HCV
  rw [hwi] at HVT
  obtain ⟨a1, a2, a3, a4, a5, _⟩ := vmB_ok hm
  obtain ⟨wn, rfl⟩ : ∃ n : Nat, wd = n := ⟨wd.toNat, by omega⟩
  obtain ⟨hn, rfl⟩ : ∃ n : Nat, hg = n := ⟨hg.toNat, by omega⟩
  have hgl : g.length = hn * wn := by
    rw [← Int.natCast_mul] at a5
    rw [Nat.mul_comm]; exact Int.natCast_inj.1 a5
  have hgp : 0 < g.length := by rw [hgl]; exact Nat.mul_pos (by omega) (by omega)
  have HGP := Lib.hid hgp
  have HG2 := Lib.hid hg2
  have HWH := Lib.hid (fun w' => by have h2 := rwhole_any wn hn (.slice oa g.length oc) w' (by omega) (by omega) ⟨_, _, _, rfl⟩; rw [← hgl] at h2; exact h2)
  have HGN := Lib.hid (fun (k : Nat) (hk : k < g.length) w' h => HGA.out 0 (plI wn k).1 (plI wn k).2 w' h hck hri (plI_on hm hk) hhe)
  obtain ⟨far, hfar⟩ : ∃ x, faO H tick = x := ⟨_, rfl⟩
  rw [hfar] at HGN ⊢
  obtain ⟨G, hG⟩ : ∃ G : Nat → Nat, G = fun k => gnC g wn ⟨0, (plI wn k).1, (plI wn k).2, height⟩ rise far (nsL g wn T rise far g.length) := ⟨_, rfl⟩
  have hGk : ∀ k, gnC g wn ⟨0, (plI wn k).1, (plI wn k).2, height⟩ rise far (nsL g wn T rise far g.length) = G k := fun k => (congrFun hG k).symm
  simp only [hGk] at HGN
  have HBI := Lib.hid (fun x y n (h : BsF wn (fun k => (G k : Int)) g.length x y n) => BsF.is (T := T) (height := height) (rise := rise) (far := far) (fun k => congrArg Int.ofNat (hGk k).symm) h hgp)
  have HGL : Hid (∀ k, G k ≤ 200) := Lib.hid (fun k => by
    rw [← hGk]; have h1 := gnC_le g wn ⟨0, (plI wn k).1, (plI wn k).2, height⟩ rise far (nsL g wn T rise far g.length); have h2 := nsL_len g wn T rise far g.length; omega)
  have hq200 : decide (200 < (g.length : Int)) = false := by simp; omega
  have hq3 : ¬ (200 : Int) < g.length := by omega
  clear HGA hcv hwi hck hri hm hhe a1 a2 a3 a4 a5 hgl hfar hE hg2 hG hGk hgp
  unfold coV at HCV HGN
  unfold coV
  go_enter Try.func8, Try.ntmps8
  go_wp2_with fail
  rw [HW1.out]
  obtain ⟨q0, q1, q2, q3, q4, _, _⟩ := HRD.out W1 (Below.refl _ _)
  go_wp2_with fail
  refine (HCV.out _ HB0.out).mono ?_
  rintro e w2 ⟨rfl, hb2⟩
  have HD2 := Lib.hid hb2
  have HB2 := Lib.hid (HB0.out.trans (hb2.mono HB0.out.size))
  clear hb2 q0 q1 q2 q3 q4
  go_wp2_with fail
  refine (HVT.out _).mono ?_
  rintro e w3 ⟨rfl, rfl⟩
  obtain ⟨q0, q1, q2, q3, q4, _, _⟩ := HRD.out w3 HD2.out
  go_wp2_with fail
  refine (HWH.out _).mono ?_
  rintro e w5 ⟨v5, rfl, hb5, hown⟩
  have hown2 : w5.ownsRow w3.heap.size 32 2 v5 (plN wn g.length).length ((plN wn g.length).flatMap encP) := by rw [plN_len]; exact hown
  have HPR := Lib.hid (PlRow.of_own hown2)
  have HD5 := Lib.hid (HD2.out.trans (hb5.mono HD2.out.size))
  have HB5 := Lib.hid (HB2.out.trans (hb5.mono HB2.out.size))
  obtain ⟨pa, pc, rfl, hpc⟩ := HPR.out.form
  rw [plN_len] at hpc ⊢
  have HPC := Lib.hid hpc
  clear hb5 hown hown2 hpc HPR q0 q1 q2 q3 q4
  go_wp2_with fail
  go_loopw [12] (fun k wr => ∃ (q : Nat), q ≤ g.length ∧ k = .int .i64 q ∧ Hid (∃ x y n, BsR w5 wr x y n ∧ BsF wn (fun k => (G k : Int)) q x y n)) (fun k _ => g.length - (intOf k).toNat)
  case atStart => exact ⟨0, Nat.zero_le _, rfl, Lib.hid ⟨0, 0, -1, ⟨(Below.refl _ w5).alloc (Nat.le_refl _) _, heap_alloc_new _ _⟩, .inl ⟨rfl, rfl, rfl, rfl⟩⟩⟩
  case round =>
    obtain ⟨q, hq, rfl, hB⟩ := hrel
    obtain ⟨bx, by', bn, hbr, hbf⟩ := hB.out
    have HBS := Lib.hid hbr
    have HBF := Lib.hid hbf
    have HDR := Lib.hid (HD5.out.trans (hbr.1.mono HD5.out.size))
    have HBR := Lib.hid (HB5.out.trans (hbr.1.mono HB5.out.size))
    clear hbr hbf hB
    by_cases hql : q < g.length
    · obtain ⟨pb, po, rfl, _, hpb, c0, c1⟩ := HPC.out q hql
      have hqi : (q : Int) < g.length := by omega
      have hq0 : (0 : Int) ≤ q := by omega
      rw [plN_get hql] at c0 c1
      have HG1 := Lib.hid (HGN.out q hql)
      have hgl := HGL.out q
      have HBT := Lib.hid (fun h => HBF.out.better (show bn < ((G q : Nat) : Int) from h))
      have HBN := Lib.hid (fun (h : ¬ bn < ((G q : Nat) : Int)) => HBF.out.not h (by simp))
      obtain ⟨⟨x, y⟩, hxy⟩ : ∃ p, plI wn q = p := ⟨_, rfl⟩
      rw [hxy] at c0 c1 HG1 HBT
      simp only at c0 c1 HG1 HBT
      obtain ⟨Gq, hGq⟩ : ∃ z, G q = z := ⟨_, rfl⟩
      rw [hGq] at HG1 HBT HBN hgl
      have KA : Hid (∀ W', Below wr.heap.size wr W' → W'.cell? ⟨w.heap.size, 0, none⟩ = some (.int .i64 wn) ∧ W'.cell? ⟨w.heap.size, 1, none⟩ = some (.int .i64 hn) ∧ W'.cell? ⟨w.heap.size, 2, none⟩ = some (.slice oa g.length oc) ∧ W'.cell? ⟨w.heap.size, 3, none⟩ = some tv ∧ W'.cell? ⟨w.heap.size, 4, none⟩ = some hv ∧ W'.cell? ⟨pb, po + q * 2, none⟩ = some (.int .i64 x) ∧ W'.cell? ⟨pb, po + q * 2 + 1, none⟩ = some (.int .i64 y)) := Lib.hid (fun W' h => by
        obtain ⟨z0, z1, z2, z3, z4, _, _⟩ := HRD.out W' (HDR.out.trans (h.mono HDR.out.size))
        have hbb := HBS.out.1.trans (h.mono HBS.out.1.size)
        exact ⟨z0, z1, z2, z3, z4, (hbb.cell (p := ⟨pb, _, none⟩) hpb).trans c0, (hbb.cell (p := ⟨pb, _, none⟩) hpb).trans c1⟩)
      have CG : Hid (∀ w', Below wr.heap.size wr w' → Calls Try.prog 35 #[.agg #[.int .i64 wn, .int .i64 hn, .slice oa g.length oc, tv, hv], .agg #[.int .i64 0, .int .i64 x, .int .i64 y, .int .i64 height], .int .i64 rise, .int .i64 tick] w' fun e w'' => e = .returned (.int .i64 (Gq : Nat)) ∧ Below wr.heap.size wr w'') := Lib.hid (fun w' h => (HG1.out w' (HBR.out.trans (h.mono HBR.out.size))).mono fun e w'' ⟨he, hh⟩ => ⟨he, h.trans (hh.mono h.size)⟩)
      clear hxy c0 c1 hGq hpb
      go_wp2_with fail
      refine wp_region_turn 10 (fun _ w' => Below wr.heap.size wr w') (by kernel_rfl) (by kernel_rfl) ((Below.refl _ wr).drew) ?_
      simp only [List.take_succ_cons, List.take_zero, List.drop_succ_cons, List.drop_zero]
      iterate 10
        (first
          | (apply turnC_step (by rfl); (intro w' hw'; go_simp; exact CG.out w' hw'))
          | (apply turnC_step (by rfl); (intro w' hw'; obtain ⟨y0, y1, y2, y3, y4, y5, y6⟩ := KA.out w' hw'; go_simp; first | exact ⟨hw', rfl⟩ | exact rfl)))
        simp only [Act.put, List.setIfInBounds_toArray, List.set_cons_succ, List.set_cons_zero]
      intro listed w7 _ hw7
      have HS7 := Lib.hid (HBS.out.keep hw7)
      obtain ⟨_, _, _, _, _, e5, e6⟩ := KA.out w7 hw7
      have hr := HS7.out.2
      have x0 := cellH hr 0
      have x1 := cellH hr 1
      have x2 := cellH hr 2
      have x3 := cellH hr 3
      have xf := freeH hr
      simp at x0 x1 x2 x3
      clear hw7 KA CG hr
      by_cases hlt : bn < (Gq : Int)
      · have d1 : decide (bn < (Gq : Int)) = true := decide_eq_true hlt
        have HN := Lib.hid (show BsR w5 _ _ _ _ ∧ _ from ⟨HS7.out.set x y Gq, HBT.out hlt⟩)
        have hgm := HG2.out
        clear HBT HBN
        go_wp2_with fail
        go_roundw
        case rel => exact ⟨q + 1, by omega, by go_num, Lib.hid ⟨_, _, _, HN.out.1, HN.out.2⟩⟩
        case measure => simp [intOf]; omega
      · have d1 : decide (bn < (Gq : Int)) = false := decide_eq_false hlt
        have HN := Lib.hid (show BsR w5 _ _ _ _ ∧ _ from ⟨HS7.out, HBN.out (by omega)⟩)
        have hgm := HG2.out
        clear HBT HBN
        go_wp2_with fail
        go_roundw
        case rel => exact ⟨q + 1, by omega, by go_num, Lib.hid ⟨_, _, _, HN.out.1, HN.out.2⟩⟩
        case measure => simp [intOf]; omega
    · obtain rfl : q = g.length := by omega
      obtain ⟨_, _, _, _, _, hr, hb9⟩ := HRD.out wr HDR.out
      have HN := Lib.hid hr
      have HB9 := Lib.hid hb9
      have x0 := cellH hr 0
      have x1 := cellH hr 1
      have x2 := cellH hr 2
      have x3 := cellH hr 3
      have xf := freeH hr
      simp at x0 x1 x2 x3
      have hs := HBS.out.2
      have y0 := cellH hs 0
      have y1 := cellH hs 1
      have y2 := cellH hs 2
      have y3 := cellH hs 3
      simp at y0 y1 y2 y3
      have HFIN := Lib.hid (HBI.out _ _ _ HBF.out)
      clear hr hb9 hs
      go_wp2_with fail
      refine bodyPost_ret (results_cell_row Try.results8 _ _ (w.heap.size + 1) 37 #[.int .i64 bx, .int .i64 by', .int .i64 bn, .int .i64 0] (0, 0) _ rfl (four_set HN.out _ _ _ _) Try.underlying37 rfl info_site) rfl ?_
      exact ⟨_, _, _, rfl, four_below HB9.out (by omega) _ _ _ _, fun h => absurd rfl h, fun _ => HFIN.out⟩
end Go.Proofs.Ytnacgogcbbpjmaa
