/- What a line meets, in plain words; the iterator of crossings of package ridge. -/
import Derived.Test.YtnacgogcbbpjmaaHA5
import Derived.Test.YtnacgogcbbpjmaaHI0
set_option linter.unusedVariables false
set_option linter.unusedSimpArgs false
namespace Go.Proofs.Ytnacgogcbbpjmaa
open Go Go.RowKit

/-- The crossings of a line with dx and dy steps, from the next ones p and q on: axis and step. -/
def crs (dx dy : Nat) : Nat → Nat → Nat → List (Nat × Nat)
  | 0, _, _ => []
  | f + 1, p, q => if p < dx ∨ q < dy then (if q * dx < p * dy then (1, q) :: crs dx dy f p (q + 1) else (0, p) :: crs dx dy f (p + 1) q) else []
def crsM (dx dy p q : Nat) : List (Nat × Nat) := crs dx dy ((dx - p) + (dy - q)) p q
structure CrOk (dx dy p q : Nat) : Prop where
  p1 : 1 ≤ p
  q1 : 1 ≤ q
  pd : p ≤ max dx 1
  qd : q ≤ max dy 1
theorem CrOk.one {dx dy p q : Nat} (h : CrOk dx dy p q) (hc : p < dx ∨ q < dy) (hl : q * dx < p * dy) : q < dy := by
  have := h.p1; have := h.q1; have := h.pd; have := h.qd
  rcases Nat.lt_or_ge q dy with h1 | h1
  · exact h1
  · exfalso
    have hp : p < dx := by omega
    rcases Nat.eq_zero_or_pos dy with h0 | h0
    · subst h0; omega
    · have h2 : dy * dx ≤ q * dx := Nat.mul_le_mul_right dx h1
      have h3 : dy * p ≤ dy * dx := Nat.mul_le_mul_left dy (by omega)
      have h4 : p * dy = dy * p := Nat.mul_comm _ _
      omega
theorem CrOk.zero {dx dy p q : Nat} (h : CrOk dx dy p q) (hc : p < dx ∨ q < dy) (hl : ¬ q * dx < p * dy) : p < dx := by
  have := h.p1; have := h.q1; have := h.pd; have := h.qd
  rcases Nat.lt_or_ge p dx with h1 | h1
  · exact h1
  · exfalso
    have hq : q < dy := by omega
    rcases Nat.eq_zero_or_pos dx with h0 | h0
    · subst h0
      have h5 : 0 < p * dy := Nat.mul_pos (by omega) (by omega)
      omega
    · have h2 : dx * dy ≤ p * dy := Nat.mul_le_mul_right dy h1
      have h3 : q * dx < dy * dx := Nat.mul_lt_mul_of_pos_right hq h0
      have h4 : dx * dy = dy * dx := Nat.mul_comm _ _
      omega
theorem crsM_end {dx dy p q : Nat} (hc : ¬ (p < dx ∨ q < dy)) : crsM dx dy p q = [] := by
  unfold crsM
  rw [show (dx - p) + (dy - q) = 0 by omega]; rfl
theorem crsM_one {dx dy p q : Nat} (h : CrOk dx dy p q) (hc : p < dx ∨ q < dy) (hl : q * dx < p * dy) : crsM dx dy p q = (1, q) :: crsM dx dy p (q + 1) ∧ CrOk dx dy p (q + 1) := by
  have hq := h.one hc hl
  refine ⟨?_, h.p1, by omega, h.pd, by omega⟩
  unfold crsM
  rw [show (dx - p) + (dy - q) = ((dx - p) + (dy - (q + 1))) + 1 by omega]
  rw [crs, if_pos hc, if_pos hl]
theorem crsM_zero {dx dy p q : Nat} (h : CrOk dx dy p q) (hc : p < dx ∨ q < dy) (hl : ¬ q * dx < p * dy) : crsM dx dy p q = (0, p) :: crsM dx dy (p + 1) q ∧ CrOk dx dy (p + 1) q := by
  have hp := h.zero hc hl
  refine ⟨?_, by omega, h.q1, by omega, h.qd⟩
  unfold crsM
  rw [show (dx - p) + (dy - q) = ((dx - (p + 1)) + (dy - q)) + 1 by omega]
  rw [crs, if_pos hc, if_neg hl]
/-- How many steps a line has along an axis. -/
def axN (a b : Pl) (i : Nat) : Int := if i = 0 then dist a.1 b.1 else dist a.2 b.2
def mkM (g : List Int) (wd : Int) (a b : Pl) (x : Nat × Nat) : Mt := ⟨x.1, x.2, axN a b x.1, grP g wd (axN a b x.1) x.2 a b⟩
/-- What the line between two places meets. -/
def mts (g : List Int) (wd : Int) (a b : Pl) : List Mt := (crsM (dist a.1 b.1).toNat (dist a.2 b.2).toNat 1 1).map (mkM g wd a b)
/-- A row of numbers that lies below a block. -/
def GRow (n0 : Nat) (W : World) (v : Value) (l : List Int) : Prop :=
  ∃ b off cap C t fr, v = .slice (some ⟨b, off, none⟩) l.length cap ∧ b < n0 ∧ n0 ≤ W.heap.size ∧ W.heap[b]? = some (.cells C t fr) ∧ ∀ i, i < l.length → C[off + i]? = some (.int .i64 (l.getD i 0))
theorem GRow.of {w : World} {v : Value} {l : List Int} (h : INRow w v l) (hl : 0 < l.length) : GRow w.heap.size w v l := by
  rcases h with ⟨a, cap, rfl, rfl⟩ | ⟨b, off, cap, rfl, hb, hc⟩
  · simp at hl
  · have h0 := hc 0 hl
    unfold World.cell? at h0
    split at h0
    · rename_i C t fr he
      refine ⟨b, off, cap, C, t, fr, rfl, hb, Nat.le_refl _, he, fun i hi => ?_⟩
      rw [← cellH he]; exact hc i hi
    · cases h0
theorem GRow.row {n0 : Nat} {W : World} {v : Value} {l : List Int} (h : GRow n0 W v l) : INRow W v l := by
  obtain ⟨b, off, cap, C, t, fr, rfl, hb, hn, he, hc⟩ := h
  exact .inr ⟨b, off, cap, rfl, by omega, fun i hi => by rw [cellH he]; exact hc i hi⟩
theorem GRow.keep {n0 : Nat} {A B : World} {v : Value} {l : List Int} (h : GRow n0 A v l) (hs : A.heap.size ≤ B.heap.size) (hk : ∀ k C t fr, A.heap[k]? = some (Obj.cells C t fr) → k < n0 → B.heap[k]? = A.heap[k]?) : GRow n0 B v l := by
  obtain ⟨b, off, cap, C, t, fr, rfl, hb, hn, he, hc⟩ := h
  exact ⟨b, off, cap, C, t, fr, rfl, hb, by omega, (hk b C t fr he hb).trans he, hc⟩
/-- What a round of a range over crossings must keep. -/
def pR (n0 : Nat) (k : Nat) (t : TypeId) : Prop := k < n0 ∨ t = 24 ∨ t = 72
/-- What the iterator of crossings reads. -/
structure CrI (n0 X M F T : Nat) (wd hg : Int) (o : Value) (g : List Int) (a b : Pl) (W : World) : Prop where
  st : CrSt X M F T wd hg o a b W
  row : GRow n0 W o g
theorem CrI.round {n0 X M F T : Nat} {wd hg : Int} {o : Value} {g : List Int} {a b : Pl} {A B : World} (h : CrI n0 X M F T wd hg o g a b A) (k : KpP (pR n0) A B) : CrI n0 X M F T wd hg o g a b B :=
  ⟨⟨(k.cells _ _ _ _ h.st.x (.inr (.inr rfl))).trans h.st.x, (k.cells _ _ _ _ h.st.m (.inr (.inl rfl))).trans h.st.m, (k.cells _ _ _ _ h.st.f (.inr (.inr rfl))).trans h.st.f, (k.cells _ _ _ _ h.st.t (.inr (.inr rfl))).trans h.st.t⟩,
    h.row.keep k.size fun i C t fr hi hn => k.cells i C t fr hi (.inl hn)⟩
theorem CrI.below {n0 X M F T : Nat} {wd hg : Int} {o : Value} {g : List Int} {a b : Pl} {A B : World} (h : CrI n0 X M F T wd hg o g a b A) (k : Below A.heap.size A B) : CrI n0 X M F T wd hg o g a b B := h.round (KpP.of_below k)

theorem OwnTo.setCell {T : TypeId} {n : Nat} {A : World} {b j : Nat} {C : Array Value} {fr : Nat × Nat} (h : A.heap[b]? = some (.cells C T fr)) (hn : n ≤ b) (v : Value) : OwnTo T n A (A.setCell ⟨b, j, none⟩ v) :=
  ⟨rfl, rfl, rfl, by simp, fun k hk => heap_other _ _ _ _ _ (by omega), fun k D t fr' hk ht => heap_other _ _ _ _ _ (fun e => ht (by rw [e, h] at hk; injection hk with hk; injection hk with _ hk; exact hk.symm))⟩
def mN (b : Nat) (W : World) : Nat := match W.cell? ⟨b, 0, none⟩, W.cell? ⟨b, 1, none⟩ with
  | some u, some v => 200 - ((intOf u).toNat + (intOf v).toNat)
  | _, _ => 0
theorem mN_eq {b : Nat} {W : World} {p q : Nat} {t : TypeId} {fr : Nat × Nat} (h : W.heap[b]? = some (.cells #[.int .i64 (p : Int), .int .i64 (q : Int)] t fr)) : mN b W = 200 - (p + q) := by
  unfold mN
  rw [cellH h 0, cellH h 1]
  simp [intOf]
theorem dist_bd {a b : Int} (ha : 0 ≤ a ∧ a ≤ 48) (hb : 0 ≤ b ∧ b ≤ 48) : 0 ≤ dist a b ∧ dist a b ≤ 48 := by unfold dist; omega

set_option maxRecDepth 100000 in
set_option maxHeartbeats 8000000 in
theorem crossings1_seq (n n0 X M F T : Nat) (wd hg : Int) (o : Value) (g : List Int) (a b : Pl) (hm : vmB wd hg g = true) (ha : onB wd hg a = true) (hb : onB wd hg b = true) :
    SeqN Try.prog n 73 #[.pointer (some ⟨X, 0, none⟩), .pointer (some ⟨M, 0, none⟩), .pointer (some ⟨F, 0, none⟩), .pointer (some ⟨T, 0, none⟩)] (fun x : Mt => #[mtV x]) 72 (KpP (pR n0)) (mts g wd a b) (CrI n0 X M F T wd hg o g a b) := by
  rintro y J Jx W hSt hyl hJ hJx hY h0
  have HSt := Lib.hid hSt; have HJ := Lib.hid hJ; have HJx := Lib.hid hJx; have HY := Lib.hid hY
  clear hSt hJ hJx hY
  refine callsIn_of_wp Try.func73 rfl trivial ?_ rfl
  simp only [Try.ntmps73, List.size_toArray, List.length_cons, List.length_nil, Nat.reduceAdd, Nat.reduceSub, Array.replicate_succ, Array.replicate_zero, List.push_toArray, List.append_toArray, List.nil_append, List.cons_append]
  have hsz := hyl
  obtain ⟨a1, a2, a3, a4⟩ := onB_ok ha
  obtain ⟨b1, b2, b3, b4⟩ := onB_ok hb
  obtain ⟨v1, v2, v3, v4, _⟩ := vmB_ok hm
  have d1 := dist_bd (a := a.1) (b := b.1) (by omega) (by omega)
  have d2 := dist_bd (a := a.2) (b := b.2) (by omega) (by omega)
  obtain ⟨dx, hdx⟩ : ∃ dx : Nat, dist a.1 b.1 = dx := ⟨(dist a.1 b.1).toNat, by omega⟩
  obtain ⟨dy, hdy⟩ : ∃ dy : Nat, dist a.2 b.2 = dy := ⟨(dist a.2 b.2).toNat, by omega⟩
  have hmts : mts g wd a b = (crsM dx dy 1 1).map (mkM g wd a b) := by unfold mts; rw [hdx, hdy]; rfl
  have hbl : X < W.heap.size ∧ M < W.heap.size ∧ F < W.heap.size ∧ T < W.heap.size ∧ n0 ≤ W.heap.size := by
    have h := HSt.out
    obtain ⟨_, _, _, _, _, _, _, _, hn, _⟩ := h.row
    exact ⟨(Array.getElem?_eq_some_iff.1 h.st.x).1, (Array.getElem?_eq_some_iff.1 h.st.m).1, (Array.getElem?_eq_some_iff.1 h.st.f).1, (Array.getElem?_eq_some_iff.1 h.st.t).1, hn⟩
  have hW1 : Below W.heap.size W (W.alloc (.cells #[.int .i64 1, .int .i64 1] 72)) := (Below.refl _ W).alloc (Nat.le_refl _) _
  have HJ0 := Lib.hid (HJ.out _ _ _ h0 (OwnTo.of_below hW1 (Nat.le_refl _)))
  have HI0 := Lib.hid (HSt.out.below hW1)
  have hNN0 : (W.alloc (.cells #[.int .i64 1, .int .i64 1] 72)).heap[W.heap.size]? = some (.cells #[.int .i64 ((1 : Nat) : Int), .int .i64 ((1 : Nat) : Int)] 72 (0, 0)) := heap_alloc_new _ _
  rw [hdx] at d1
  rw [hdy] at d2
  clear a1 a2 a3 a4 b1 b2 b3 b4 v1 v2 v3 v4 hW1 h0 hsz
  gi_wp2
  gi_loopw [7] (fun u wr => ∃ (p q : Nat) (pre : List Mt), CrOk dx dy p q ∧ pre ++ (crsM dx dy p q).map (mkM g wd a b) = mts g wd a b ∧ J pre wr ∧ Hid (CrI n0 X M F T wd hg o g a b wr) ∧ wr.heap[W.heap.size]? = some (.cells #[.int .i64 (p : Int), .int .i64 (q : Int)] 72 (0, 0))) (fun _ wr => mN W.heap.size wr)
  case atStart => exact ⟨1, 1, [], ⟨by omega, by omega, by omega, by omega⟩, by rw [hmts]; rfl, HJ0.out, HI0, hNN0⟩
  case round =>
    obtain ⟨p, q, pre, hok, hpre, hJp, hI, hN⟩ := hrel
    clear hNN0
    have hNsz := (Array.getElem?_eq_some_iff.1 hN).1
    have n0' := cellH hN 0
    have n1' := cellH hN 1
    have x0 := cellH hI.out.st.x 0
    have x1 := cellH hI.out.st.x 1
    simp at n0' n1' x0 x1
    rw [hdx] at x0
    rw [hdy] at x1
    have hmeas := mN_eq hN
    have k1 := hok.p1; have k2 := hok.q1; have k3 := hok.pd; have k4 := hok.qd
    have K0 : Hid (∀ W', Below wr.heap.size wr W' → W'.cell? ⟨M, 0, none⟩ = some (.int .i64 wd) ∧ W'.cell? ⟨M, 1, none⟩ = some (.int .i64 hg) ∧ W'.cell? ⟨M, 2, none⟩ = some o ∧ W'.cell? ⟨F, 0, none⟩ = some (.int .i64 a.1) ∧ W'.cell? ⟨F, 1, none⟩ = some (.int .i64 a.2) ∧
        W'.cell? ⟨T, 0, none⟩ = some (.int .i64 b.1) ∧ W'.cell? ⟨T, 1, none⟩ = some (.int .i64 b.2) ∧ W'.cell? ⟨X, 0, none⟩ = some (.int .i64 (dx : Int)) ∧ W'.cell? ⟨X, 1, none⟩ = some (.int .i64 (dy : Int)) ∧ W'.cell? ⟨W.heap.size, 0, none⟩ = some (.int .i64 (p : Int)) ∧ W'.cell? ⟨W.heap.size, 1, none⟩ = some (.int .i64 (q : Int))) := Lib.hid (fun W' h => by
      have h1 := hI.out.below h
      have h2 := (h.block _ hNsz).trans hN
      have y0 := cellH h1.st.x 0
      have y1 := cellH h1.st.x 1
      simp at y0 y1
      rw [hdx] at y0
      rw [hdy] at y1
      exact ⟨cellH h1.st.m 0, cellH h1.st.m 1, cellH h1.st.m 2, cellH h1.st.f 0, cellH h1.st.f 1, cellH h1.st.t 0, cellH h1.st.t 1, y0, y1, cellH h2 0, cellH h2 1⟩)
    have m1 : 0 ≤ (q : Int) * dx := Int.mul_nonneg (by omega) (by omega)
    have m2 : (q : Int) * dx ≤ 48 * 48 := Int.mul_le_mul (by omega) (by omega) (by omega) (by omega)
    have m3 : 0 ≤ (p : Int) * dy := Int.mul_nonneg (by omega) (by omega)
    have m4 : (p : Int) * dy ≤ 48 * 48 := Int.mul_le_mul (by omega) (by omega) (by omega) (by omega)
    have e1 : IntKind.i64.wrap ((q : Int) * dx) = (q : Int) * dx := IntWalk.i64_in _ (by omega)
    have e2 : IntKind.i64.wrap ((p : Int) * dy) = (p : Int) * dy := IntWalk.i64_in _ (by omega)
    clear m1 m2 m3 m4
    by_cases hl : q * dx < p * dy
    · have hl' : (q : Int) * dx < (p : Int) * dy := by exact_mod_cast hl
      by_cases hc1 : p < dx
      · have hc1' : (p : Int) < dx := by omega
        have HCR := Lib.hid (crsM_one hok (.inl hc1) hl)
        have hax : q < dy := hok.one (.inl hc1) hl
        have hmk : mkM g wd a b (1, q) = ⟨1, q, dy, grP g wd dy q a b⟩ := by
          have e : axN a b 1 = (dy : Int) := hdy
          show (⟨_, _, axN a b 1, grP g wd (axN a b 1) _ a b⟩ : Mt) = _
          rw [e]; rfl
        have hx2 : ((pre ++ [mkM g wd a b (1, q)]) ++ (crsM dx dy p (q + 1)).map (mkM g wd a b) = mts g wd a b) := by
          rw [← hpre, HCR.out.1]; simp
        have HX2 := Lib.hid hx2
        have HOK2 := Lib.hid HCR.out.2
        have hlen : pre.length < (mts g wd a b).length := by rw [← hx2]; simp
        have hpf : pre ++ [mkM g wd a b (1, q)] <+: mts g wd a b := ⟨_, hx2⟩
        rw [hmk] at hpf hx2
        have HPF := Lib.hid hpf
        have HX3 := Lib.hid hx2
        have CM : Hid (∀ w', Below wr.heap.size wr w' → Calls Try.prog 74 #[.agg #[.int .i64 wd, .int .i64 hg, o], .agg #[.int .i64 a.1, .int .i64 a.2], .agg #[.int .i64 b.1, .int .i64 b.2], .int .i64 (dy : Int), .agg #[.int .i64 1, .int .i64 (q : Int)]] w' fun e w'' => e = .returned (mtV ⟨1, q, dy, grP g wd dy q a b⟩) ∧ Below wr.heap.size wr w'') := Lib.hid (fun w' h =>
          (meet_any wd hg o g a b 1 dy q w' (hI.out.below h).row.row hm ha hb (by omega) (by omega)).mono fun e w'' ⟨he, hh⟩ => ⟨he, h.trans (hh.mono h.size)⟩)
        have HLEN := Lib.hid hlen
        have HOK := Lib.hid hok
        have ek : IntKind.i64.wrap ((q : Int) + 1) = (q : Int) + 1 := IntWalk.i64_in _ (by omega)
        clear hmk hx2 hlen hpf hpre hok hax
        gi_wp2
        refine wpIn_region_turn lax_wide 13 (fun _ w' => Below wr.heap.size wr w') (by kernel_rfl) (by kernel_rfl) (by kernel_rfl) ((Below.refl _ wr).drew) ?_
        simp only [List.take_succ_cons, List.take_zero, List.drop_succ_cons, List.drop_zero]
        iterate 13
          (first
            | (apply turnC_step (by rfl); (intro w' hw'; go_simp; exact CM.out w' hw'))
            | (apply turnC_step (by rfl); (intro w' hw'; obtain ⟨q0, q1, q2, q3, q4, q5, q6, q7, q8, q9, q10⟩ := K0.out w' hw'; go_simp; first | exact ⟨hw', rfl⟩ | exact rfl)))
          simp only [Act.put, List.setIfInBounds_toArray, List.set_cons_succ, List.set_cons_zero]
        intro listed w9 _ hw9
        have hJ9 := HJ.out _ _ _ hJp (OwnTo.of_below hw9 (by omega))
        obtain ⟨fn, tmps, assign, body, hy, hR⟩ := HY.out pre ⟨1, q, dy, grP g wd dy q a b⟩ w9 hJ9 HPF.out
        have HN9 := Lib.hid ((hw9.block _ (by omega)).trans hN)
        have HI9 := Lib.hid (hI.out.below hw9)
        have HR := Lib.hid hR
        clear hJ9 hR hJp K0 CM hI hN n0' n1' x0 x1 hw9
        gi_wp2
        refine ⟨(fun h => by cases h), ?_⟩
        refine HR.out.mono ?_
        rintro e3 W3 (⟨rfl, ⟨hJ3, hk3⟩, hkf3⟩ | ⟨rfl, hJx3, hkf3⟩)
        · have hN3 := (hk3.cells _ _ _ _ HN9.out (.inr (.inr rfl))).trans HN9.out
          have hI3 := HI9.out.round hk3
          have n0' := cellH hN3 0
          have n1' := cellH hN3 1
          have nf' := freeH hN3
          simp at n0' n1'
          have hN4 := heap_same hN3 1 (.int .i64 ((q : Int) + 1))
          simp at hN4
          have hO4 := OwnTo.setCell (n := W.heap.size) (j := 1) hN3 (Nat.le_refl _) (.int .i64 ((q : Int) + 1))
          have HJ4 := Lib.hid (HJ.out _ _ _ hJ3 hO4)
          have HI4 : Hid (CrI n0 X M F T wd hg o g a b (W3.setCell ⟨W.heap.size, 1, none⟩ (.int .i64 ((q : Int) + 1)))) := Lib.hid ⟨⟨(hO4.low _ hbl.1).trans hI3.st.x, (hO4.low _ hbl.2.1).trans hI3.st.m, (hO4.low _ hbl.2.2.1).trans hI3.st.f, (hO4.low _ hbl.2.2.2.1).trans hI3.st.t⟩, hI3.row.keep (by simp) (fun k C t fr hk hn => hO4.low k (by omega))⟩
          have HN4 : Hid ((W3.setCell ⟨W.heap.size, 1, none⟩ (.int .i64 ((q : Int) + 1))).heap[W.heap.size]? = some (.cells #[.int .i64 ((p : Nat) : Int), .int .i64 (((q + 1) : Nat) : Int)] 72 (0, 0))) := Lib.hid (by first | exact hN4 | (rw [hN4]; simp))
          clear hN3 hI3 hN4 hO4 hk3 hkf3 hJ3
          gi_wp2
          go_roundw
          case rel => exact ⟨p, (q + 1), pre ++ [⟨1, q, dy, grP g wd dy q a b⟩], HOK2.out, HX3.out, HJ4.out, HI4, HN4.out⟩
          case measure =>
            have := HOK.out.pd; have := HOK.out.qd
            rw [mN_eq HN4.out, hmeas]
            omega
        · gi_wp2
          refine bodyPost_ret (results_none rfl _ _ _) rfl ?_
          exact ⟨⟨_, rfl⟩, .inr ⟨_, HPF.out, hJx3⟩⟩
      · have gc1 : decide ((p : Int) < dx) = false := decide_eq_false (by omega)
        by_cases hc2 : q < dy
        · have hc2' : (q : Int) < dy := by omega
          have HCR := Lib.hid (crsM_one hok (.inr hc2) hl)
          have hax : q < dy := hok.one (.inr hc2) hl
          have hmk : mkM g wd a b (1, q) = ⟨1, q, dy, grP g wd dy q a b⟩ := by
            have e : axN a b 1 = (dy : Int) := hdy
            show (⟨_, _, axN a b 1, grP g wd (axN a b 1) _ a b⟩ : Mt) = _
            rw [e]; rfl
          have hx2 : ((pre ++ [mkM g wd a b (1, q)]) ++ (crsM dx dy p (q + 1)).map (mkM g wd a b) = mts g wd a b) := by
            rw [← hpre, HCR.out.1]; simp
          have HX2 := Lib.hid hx2
          have HOK2 := Lib.hid HCR.out.2
          have hlen : pre.length < (mts g wd a b).length := by rw [← hx2]; simp
          have hpf : pre ++ [mkM g wd a b (1, q)] <+: mts g wd a b := ⟨_, hx2⟩
          rw [hmk] at hpf hx2
          have HPF := Lib.hid hpf
          have HX3 := Lib.hid hx2
          have CM : Hid (∀ w', Below wr.heap.size wr w' → Calls Try.prog 74 #[.agg #[.int .i64 wd, .int .i64 hg, o], .agg #[.int .i64 a.1, .int .i64 a.2], .agg #[.int .i64 b.1, .int .i64 b.2], .int .i64 (dy : Int), .agg #[.int .i64 1, .int .i64 (q : Int)]] w' fun e w'' => e = .returned (mtV ⟨1, q, dy, grP g wd dy q a b⟩) ∧ Below wr.heap.size wr w'') := Lib.hid (fun w' h =>
            (meet_any wd hg o g a b 1 dy q w' (hI.out.below h).row.row hm ha hb (by omega) (by omega)).mono fun e w'' ⟨he, hh⟩ => ⟨he, h.trans (hh.mono h.size)⟩)
          have HLEN := Lib.hid hlen
          have HOK := Lib.hid hok
          have ek : IntKind.i64.wrap ((q : Int) + 1) = (q : Int) + 1 := IntWalk.i64_in _ (by omega)
          clear hmk hx2 hlen hpf hpre hok hax
          gi_wp2
          refine wpIn_region_turn lax_wide 13 (fun _ w' => Below wr.heap.size wr w') (by kernel_rfl) (by kernel_rfl) (by kernel_rfl) ((Below.refl _ wr).drew) ?_
          simp only [List.take_succ_cons, List.take_zero, List.drop_succ_cons, List.drop_zero]
          iterate 13
            (first
              | (apply turnC_step (by rfl); (intro w' hw'; go_simp; exact CM.out w' hw'))
              | (apply turnC_step (by rfl); (intro w' hw'; obtain ⟨q0, q1, q2, q3, q4, q5, q6, q7, q8, q9, q10⟩ := K0.out w' hw'; go_simp; first | exact ⟨hw', rfl⟩ | exact rfl)))
            simp only [Act.put, List.setIfInBounds_toArray, List.set_cons_succ, List.set_cons_zero]
          intro listed w9 _ hw9
          have hJ9 := HJ.out _ _ _ hJp (OwnTo.of_below hw9 (by omega))
          obtain ⟨fn, tmps, assign, body, hy, hR⟩ := HY.out pre ⟨1, q, dy, grP g wd dy q a b⟩ w9 hJ9 HPF.out
          have HN9 := Lib.hid ((hw9.block _ (by omega)).trans hN)
          have HI9 := Lib.hid (hI.out.below hw9)
          have HR := Lib.hid hR
          clear hJ9 hR hJp K0 CM hI hN n0' n1' x0 x1 hw9
          gi_wp2
          refine ⟨(fun h => by cases h), ?_⟩
          refine HR.out.mono ?_
          rintro e3 W3 (⟨rfl, ⟨hJ3, hk3⟩, hkf3⟩ | ⟨rfl, hJx3, hkf3⟩)
          · have hN3 := (hk3.cells _ _ _ _ HN9.out (.inr (.inr rfl))).trans HN9.out
            have hI3 := HI9.out.round hk3
            have n0' := cellH hN3 0
            have n1' := cellH hN3 1
            have nf' := freeH hN3
            simp at n0' n1'
            have hN4 := heap_same hN3 1 (.int .i64 ((q : Int) + 1))
            simp at hN4
            have hO4 := OwnTo.setCell (n := W.heap.size) (j := 1) hN3 (Nat.le_refl _) (.int .i64 ((q : Int) + 1))
            have HJ4 := Lib.hid (HJ.out _ _ _ hJ3 hO4)
            have HI4 : Hid (CrI n0 X M F T wd hg o g a b (W3.setCell ⟨W.heap.size, 1, none⟩ (.int .i64 ((q : Int) + 1)))) := Lib.hid ⟨⟨(hO4.low _ hbl.1).trans hI3.st.x, (hO4.low _ hbl.2.1).trans hI3.st.m, (hO4.low _ hbl.2.2.1).trans hI3.st.f, (hO4.low _ hbl.2.2.2.1).trans hI3.st.t⟩, hI3.row.keep (by simp) (fun k C t fr hk hn => hO4.low k (by omega))⟩
            have HN4 : Hid ((W3.setCell ⟨W.heap.size, 1, none⟩ (.int .i64 ((q : Int) + 1))).heap[W.heap.size]? = some (.cells #[.int .i64 ((p : Nat) : Int), .int .i64 (((q + 1) : Nat) : Int)] 72 (0, 0))) := Lib.hid (by first | exact hN4 | (rw [hN4]; simp))
            clear hN3 hI3 hN4 hO4 hk3 hkf3 hJ3
            gi_wp2
            go_roundw
            case rel => exact ⟨p, (q + 1), pre ++ [⟨1, q, dy, grP g wd dy q a b⟩], HOK2.out, HX3.out, HJ4.out, HI4, HN4.out⟩
            case measure =>
              have := HOK.out.pd; have := HOK.out.qd
              rw [mN_eq HN4.out, hmeas]
              omega
          · gi_wp2
            refine bodyPost_ret (results_none rfl _ _ _) rfl ?_
            exact ⟨⟨_, rfl⟩, .inr ⟨_, HPF.out, hJx3⟩⟩
        · have gc2 : decide ((q : Int) < dy) = false := decide_eq_false (by omega)
          rw [crsM_end (by omega)] at hpre
          simp only [List.map_nil, List.append_nil] at hpre
          rw [hpre] at hJp
          have HJE := Lib.hid hJp
          clear hJp hpre K0
          gi_wp2
          go_end0
          exact ⟨⟨_, rfl⟩, .inl HJE.out⟩
    · have gl : decide ((q : Int) * dx < (p : Int) * dy) = false := decide_eq_false (by intro h; exact hl (by exact_mod_cast h))
      by_cases hc1 : p < dx
      · have hc1' : (p : Int) < dx := by omega
        have HCR := Lib.hid (crsM_zero hok (.inl hc1) hl)
        have hax : p < dx := hok.zero (.inl hc1) hl
        have hmk : mkM g wd a b (0, p) = ⟨0, p, dx, grP g wd dx p a b⟩ := by
          have e : axN a b 0 = (dx : Int) := hdx
          show (⟨_, _, axN a b 0, grP g wd (axN a b 0) _ a b⟩ : Mt) = _
          rw [e]; rfl
        have hx2 : ((pre ++ [mkM g wd a b (0, p)]) ++ (crsM dx dy (p + 1) q).map (mkM g wd a b) = mts g wd a b) := by
          rw [← hpre, HCR.out.1]; simp
        have HX2 := Lib.hid hx2
        have HOK2 := Lib.hid HCR.out.2
        have hlen : pre.length < (mts g wd a b).length := by rw [← hx2]; simp
        have hpf : pre ++ [mkM g wd a b (0, p)] <+: mts g wd a b := ⟨_, hx2⟩
        rw [hmk] at hpf hx2
        have HPF := Lib.hid hpf
        have HX3 := Lib.hid hx2
        have CM : Hid (∀ w', Below wr.heap.size wr w' → Calls Try.prog 74 #[.agg #[.int .i64 wd, .int .i64 hg, o], .agg #[.int .i64 a.1, .int .i64 a.2], .agg #[.int .i64 b.1, .int .i64 b.2], .int .i64 (dx : Int), .agg #[.int .i64 0, .int .i64 (p : Int)]] w' fun e w'' => e = .returned (mtV ⟨0, p, dx, grP g wd dx p a b⟩) ∧ Below wr.heap.size wr w'') := Lib.hid (fun w' h =>
          (meet_any wd hg o g a b 0 dx p w' (hI.out.below h).row.row hm ha hb (by omega) (by omega)).mono fun e w'' ⟨he, hh⟩ => ⟨he, h.trans (hh.mono h.size)⟩)
        have HLEN := Lib.hid hlen
        have HOK := Lib.hid hok
        have ek : IntKind.i64.wrap ((p : Int) + 1) = (p : Int) + 1 := IntWalk.i64_in _ (by omega)
        clear hmk hx2 hlen hpf hpre hok hax
        gi_wp2
        refine wpIn_region_turn lax_wide 13 (fun _ w' => Below wr.heap.size wr w') (by kernel_rfl) (by kernel_rfl) (by kernel_rfl) ((Below.refl _ wr).drew) ?_
        simp only [List.take_succ_cons, List.take_zero, List.drop_succ_cons, List.drop_zero]
        iterate 13
          (first
            | (apply turnC_step (by rfl); (intro w' hw'; go_simp; exact CM.out w' hw'))
            | (apply turnC_step (by rfl); (intro w' hw'; obtain ⟨q0, q1, q2, q3, q4, q5, q6, q7, q8, q9, q10⟩ := K0.out w' hw'; go_simp; first | exact ⟨hw', rfl⟩ | exact rfl)))
          simp only [Act.put, List.setIfInBounds_toArray, List.set_cons_succ, List.set_cons_zero]
        intro listed w9 _ hw9
        have hJ9 := HJ.out _ _ _ hJp (OwnTo.of_below hw9 (by omega))
        obtain ⟨fn, tmps, assign, body, hy, hR⟩ := HY.out pre ⟨0, p, dx, grP g wd dx p a b⟩ w9 hJ9 HPF.out
        have HN9 := Lib.hid ((hw9.block _ (by omega)).trans hN)
        have HI9 := Lib.hid (hI.out.below hw9)
        have HR := Lib.hid hR
        clear hJ9 hR hJp K0 CM hI hN n0' n1' x0 x1 hw9
        gi_wp2
        refine ⟨(fun h => by cases h), ?_⟩
        refine HR.out.mono ?_
        rintro e3 W3 (⟨rfl, ⟨hJ3, hk3⟩, hkf3⟩ | ⟨rfl, hJx3, hkf3⟩)
        · have hN3 := (hk3.cells _ _ _ _ HN9.out (.inr (.inr rfl))).trans HN9.out
          have hI3 := HI9.out.round hk3
          have n0' := cellH hN3 0
          have n1' := cellH hN3 1
          have nf' := freeH hN3
          simp at n0' n1'
          have hN4 := heap_same hN3 0 (.int .i64 ((p : Int) + 1))
          simp at hN4
          have hO4 := OwnTo.setCell (n := W.heap.size) (j := 0) hN3 (Nat.le_refl _) (.int .i64 ((p : Int) + 1))
          have HJ4 := Lib.hid (HJ.out _ _ _ hJ3 hO4)
          have HI4 : Hid (CrI n0 X M F T wd hg o g a b (W3.setCell ⟨W.heap.size, 0, none⟩ (.int .i64 ((p : Int) + 1)))) := Lib.hid ⟨⟨(hO4.low _ hbl.1).trans hI3.st.x, (hO4.low _ hbl.2.1).trans hI3.st.m, (hO4.low _ hbl.2.2.1).trans hI3.st.f, (hO4.low _ hbl.2.2.2.1).trans hI3.st.t⟩, hI3.row.keep (by simp) (fun k C t fr hk hn => hO4.low k (by omega))⟩
          have HN4 : Hid ((W3.setCell ⟨W.heap.size, 0, none⟩ (.int .i64 ((p : Int) + 1))).heap[W.heap.size]? = some (.cells #[.int .i64 (((p + 1) : Nat) : Int), .int .i64 ((q : Nat) : Int)] 72 (0, 0))) := Lib.hid (by first | exact hN4 | (rw [hN4]; simp))
          clear hN3 hI3 hN4 hO4 hk3 hkf3 hJ3
          gi_wp2
          go_roundw
          case rel => exact ⟨(p + 1), q, pre ++ [⟨0, p, dx, grP g wd dx p a b⟩], HOK2.out, HX3.out, HJ4.out, HI4, HN4.out⟩
          case measure =>
            have := HOK.out.pd; have := HOK.out.qd
            rw [mN_eq HN4.out, hmeas]
            omega
        · gi_wp2
          refine bodyPost_ret (results_none rfl _ _ _) rfl ?_
          exact ⟨⟨_, rfl⟩, .inr ⟨_, HPF.out, hJx3⟩⟩
      · have gc1 : decide ((p : Int) < dx) = false := decide_eq_false (by omega)
        by_cases hc2 : q < dy
        · exact absurd (hok.zero (.inr hc2) hl) hc1
        · have gc2 : decide ((q : Int) < dy) = false := decide_eq_false (by omega)
          rw [crsM_end (by omega)] at hpre
          simp only [List.map_nil, List.append_nil] at hpre
          rw [hpre] at hJp
          have HJE := Lib.hid hJp
          clear hJp hpre K0
          gi_wp2
          go_end0
          exact ⟨⟨_, rfl⟩, .inl HJE.out⟩
end Go.Proofs.Ytnacgogcbbpjmaa
