/- Theory of ridge: what is free on a map is free on the map that is turned over. -/
import Derived.Test.YtjllkmekchmmbaaHT7
import Derived.Test.YtjllkmekchmmbaaHT2
set_option linter.unusedVariables false
set_option linter.unusedSimpArgs false
namespace Go.Proofs.Ytjllkmekchmmbaa
open Go Go.RowKit

/-- A step of turning over, its heights, and which axis a crossing has behind it. -/
structure Turn (M : Pl → Pl) (I : Pl → Pl) (ax : Nat → Nat) : Prop where
  gr : ∀ (H : Pl → Int) (n k : Int) (f t : Pl), 1 ≤ n → onAx n k f t → grH (fun p => H (I p)) n k (M f) (M t) = grH H n k f t
  on : ∀ (n k : Int) (f t : Pl), 1 ≤ n → onAx n k f t → onAx n k (M f) (M t)
  axs : ∀ (f t : Pl) (i : Nat), i = 0 ∨ i = 1 → (ax i = 0 ∨ ax i = 1) ∧ axN (M f) (M t) (ax i) = axN f t i
  inv : ∀ p, I (M p) = p
  sur : ∀ i, i = 0 ∨ i = 1 → ∃ j, (j = 0 ∨ j = 1) ∧ ax j = i
theorem Turn.id : Turn (fun p => p) (fun p => p) (fun i => i) := ⟨fun _ _ _ _ _ _ _ => rfl, fun _ _ _ _ _ h => h, fun _ _ _ h => ⟨h, rfl⟩, fun _ => rfl, fun i h => ⟨i, h, rfl⟩⟩
theorem Turn.comp {M I : Pl → Pl} {ax : Nat → Nat} {M2 I2 : Pl → Pl} {ax2 : Nat → Nat} (h : Turn M I ax) (h2 : Turn M2 I2 ax2) : Turn (fun p => M2 (M p)) (fun p => I (I2 p)) (fun i => ax2 (ax i)) :=
  ⟨fun H n k f t hn ho => (h2.gr (fun p => H (I p)) n k (M f) (M t) hn (h.on n k f t hn ho)).trans (h.gr H n k f t hn ho),
   fun n k f t hn ho => h2.on n k _ _ hn (h.on n k f t hn ho),
   fun f t i hi => by
    obtain ⟨e1, e2⟩ := h.axs f t i hi
    obtain ⟨e3, e4⟩ := h2.axs (M f) (M t) (ax i) e1
    exact ⟨e3, e4.trans e2⟩,
   fun p => by simp only [h.inv, h2.inv],
   fun i hi => by
    obtain ⟨j, hj, e⟩ := h2.sur i hi
    obtain ⟨k, hk, e2⟩ := h.sur j hj
    exact ⟨k, hk, by rw [e2, e]⟩⟩
theorem turn_X (c : Int) : Turn (flX c) (flX c) (fun i => i) := ⟨fun _ _ _ _ _ hn ho => grH_X hn ho, fun _ _ _ _ hn ho => onAx_X hn ho, fun f t i hi => ⟨hi, by unfold axN flX dist; simp only; split <;> omega⟩, fun p => by unfold flX; exact Prod.ext (by simp only; omega) rfl, fun i h => ⟨i, h, rfl⟩⟩
theorem turn_Y (c : Int) : Turn (flY c) (flY c) (fun i => i) := ⟨fun _ _ _ _ _ hn ho => grH_Y hn ho, fun _ _ _ _ hn ho => onAx_Y hn ho, fun f t i hi => ⟨hi, by unfold axN flY dist; simp only; split <;> omega⟩, fun p => by unfold flY; exact Prod.ext rfl (by simp only; omega), fun i h => ⟨i, h, rfl⟩⟩
theorem turn_S : Turn flS flS (fun i => 1 - i) := ⟨fun _ _ _ _ _ _ _ => grH_S, fun _ _ _ _ _ ho => onAx_S ho, fun f t i hi => by
    rcases hi with rfl | rfl
    · exact ⟨by simp, rfl⟩
    · exact ⟨by simp, rfl⟩, fun p => rfl, fun i h => by
    rcases h with rfl | rfl
    · exact ⟨1, .inr rfl, rfl⟩
    · exact ⟨0, .inl rfl, rfl⟩⟩
theorem mir_turn (wd hg h : Int) : ∃ I ax, Turn (mirP wd hg h) I ax := by
  have hX : ∃ I ax, Turn (mirX wd h) I ax := by
    by_cases e : h % 2 = 1
    · exact ⟨_, _, by have := turn_X (wd - 1); unfold mirX; simp only [if_pos e]; exact this⟩
    · exact ⟨_, _, by have := Turn.id; unfold mirX; simp only [if_neg e]; exact this⟩
  have hY : ∃ I ax, Turn (mirY hg h) I ax := by
    by_cases e : h / 2 % 2 = 1
    · exact ⟨_, _, by have := turn_Y (hg - 1); unfold mirY; simp only [if_pos e]; exact this⟩
    · exact ⟨_, _, by have := Turn.id; unfold mirY; simp only [if_neg e]; exact this⟩
  have hS : ∃ I ax, Turn (mirS h) I ax := by
    by_cases e : h / 4 % 2 = 1
    · exact ⟨_, _, by have := turn_S; unfold mirS; simp only [if_pos e]; exact this⟩
    · exact ⟨_, _, by have := Turn.id; unfold mirS; simp only [if_neg e]; exact this⟩
  obtain ⟨I1, a1, h1⟩ := hX
  obtain ⟨I2, a2, h2⟩ := hY
  obtain ⟨I3, a3, h3⟩ := hS
  exact ⟨_, _, (h1.comp h2).comp h3⟩
/-- The sides of the map that is turned over. -/
def mirW (wd hg h : Int) : Int := if h / 4 % 2 = 1 then hg else wd
theorem mir_on {wd hg h : Int} {p : Pl} (hp : onB wd hg p = true) : onB (mirW wd hg h) (mirW hg wd h) (mirP wd hg h p) = true := by
  obtain ⟨a1, a2, a3, a4⟩ := onB_ok hp
  refine onB_mk ?_
  unfold mirW mirP mirS mirY mirX
  by_cases e1 : h % 2 = 1 <;> by_cases e2 : h / 2 % 2 = 1 <;> by_cases e3 : h / 4 % 2 = 1 <;> simp [e1, e2, e3] <;> omega
theorem mir_onto {wd hg h : Int} {q : Pl} (hq : onB (mirW wd hg h) (mirW hg wd h) q = true) : ∃ p, onB wd hg p = true ∧ mirP wd hg h p = q := by
  obtain ⟨a1, a2, a3, a4⟩ := onB_ok hq
  obtain ⟨x, y⟩ := q
  refine ⟨mirX wd h (mirY hg h (mirS h (x, y))), onB_mk ?_, ?_⟩
  · unfold mirW at *
    unfold mirS mirY mirX
    by_cases e1 : h % 2 = 1 <;> by_cases e2 : h / 2 % 2 = 1 <;> by_cases e3 : h / 4 % 2 = 1 <;> simp [e1, e2, e3] at * <;> omega
  · unfold mirP mirS mirY mirX
    by_cases e1 : h % 2 = 1 <;> by_cases e2 : h / 2 % 2 = 1 <;> by_cases e3 : h / 4 % 2 = 1 <;> simp [e1, e2, e3] <;> omega
theorem lohi_on {wd hg n k : Int} {f t : Pl} (hk : 0 ≤ k ∧ k ≤ n) (hn : 1 ≤ n) (hf : onB wd hg f = true) (ht : onB wd hg t = true) : onB wd hg (loP n k f t) = true ∧ onB wd hg (hiP n k f t) = true := by
  obtain ⟨a1, a2, a3, a4⟩ := onB_ok hf
  obtain ⟨b1, b2, b3, b4⟩ := onB_ok ht
  obtain ⟨c1, c2⟩ := atP_bd (n := n) (k := k) (f := f.1) (t := t.1) (m := wd) hk.1 hk.2 hn ⟨a1, a2⟩ ⟨b1, b2⟩
  obtain ⟨d1, d2⟩ := atP_bd (n := n) (k := k) (f := f.2) (t := t.2) (m := hg) hk.1 hk.2 hn ⟨a3, a4⟩ ⟨b3, b4⟩
  have r1 := rest_bd hn c1 c2
  have r2 := rest_bd hn d1 d2
  have u1 := up_whole (x := atP n k f.1 t.1) hn
  have u2 := up_whole (x := atP n k f.2 t.2) hn
  refine ⟨onB_mk ?_, onB_mk ?_⟩
  · unfold loP; simp only; omega
  · unfold hiP; simp only
    rw [u1, u2]
    split <;> split <;> omega
theorem axis_on {a b : Pl} {i : Nat} {k : Int} (hi : i = 0 ∨ i = 1) : onAx (axN a b i) k a b := by
  unfold onAx
  rcases hi with rfl | rfl
  · left; unfold axN; rw [if_pos rfl]; rw [at_line, Int.mul_emod_right]
  · right; unfold axN; rw [if_neg (by decide)]; rw [at_line, Int.mul_emod_right]
theorem free_mirror {wd hg h : Int} {g g' : List Int} {a b : Pl} {up rise : Int} (ha : onB wd hg a = true) (hb : onB wd hg b = true)
    (hv : ∀ p, onB wd hg p = true → hAt g' (mirW wd hg h) (mirP wd hg h p) = hAt g wd p) :
    freeB g' (mirW wd hg h) (mirP wd hg h a) up (mirP wd hg h b) rise = freeB g wd a up b rise := by
  obtain ⟨I, ax, hT⟩ := mir_turn wd hg h
  have hma := mir_on (h := h) ha
  have hmb := mir_on (h := h) hb
  have hval : ∀ q, onB (mirW wd hg h) (mirW hg wd h) q = true → hAt g' (mirW wd hg h) q = hAt g wd (I q) := by
    intro q hq
    obtain ⟨p, hp, rfl⟩ := mir_onto hq
    rw [hv p hp, hT.inv]
  have key : ∀ (i k : Nat), i = 0 ∨ i = 1 → 1 ≤ (k : Int) ∧ (k : Int) < axN a b i → grP g' (mirW wd hg h) (axN a b i) k (mirP wd hg h a) (mirP wd hg h b) = grP g wd (axN a b i) k a b := by
    intro i k hi hk
    obtain ⟨o1, o2⟩ := lohi_on (n := axN a b i) (k := k) (by omega) (by omega) hma hmb
    rw [grP_H, grP_H, ← hT.gr (hAt g wd) (axN a b i) k a b (by omega) (axis_on hi)]
    unfold grH
    rw [hval _ o1, hval _ o2]
  have mem : ∀ (g0 : List Int) (wd0 : Int) (f t : Pl) (x : Mt), x ∈ mts g0 wd0 f t ↔ ∃ i k : Nat, (i = 0 ∨ i = 1) ∧ (1 ≤ (k : Int) ∧ (k : Int) < axN f t i) ∧ x = mkM g0 wd0 f t (i, k) := by
    intro g0 wd0 f t x
    rw [mts_mem]
    constructor
    · rintro ⟨i, k, h1, h2⟩
      refine ⟨i, k, by omega, ?_, h2⟩
      unfold axN
      rcases h1 with ⟨rfl, h3, h4⟩ | ⟨rfl, h3, h4⟩
      · rw [if_pos rfl]; omega
      · rw [if_neg (by decide)]; omega
    · rintro ⟨i, k, h1, h3, h2⟩
      refine ⟨i, k, ?_, h2⟩
      unfold axN at h3
      rcases h1 with rfl | rfl
      · rw [if_pos rfl] at h3; left; omega
      · rw [if_neg (by decide)] at h3; right; omega
  have same : ∀ (i k : Nat), i = 0 ∨ i = 1 → 1 ≤ (k : Int) ∧ (k : Int) < axN a b i → ∀ u v, ((mkM g' (mirW wd hg h) (mirP wd hg h a) (mirP wd hg h b) (ax i, k)).g ≤ partI (mkM g' (mirW wd hg h) (mirP wd hg h a) (mirP wd hg h b) (ax i, k)) u v ↔ (mkM g wd a b (i, k)).g ≤ partI (mkM g wd a b (i, k)) u v) := by
    intro i k hi hk u v
    unfold mkM partI
    simp only
    rw [(hT.axs a b i hi).2, key i k hi hk]
  rw [Bool.eq_iff_iff, freeB_iff, freeB_iff, hv a ha, hv b hb]
  constructor
  · intro hx x hm
    obtain ⟨i, k, hi, hk, rfl⟩ := (mem g wd a b x).1 hm
    have hT2 := hT.axs a b i hi
    exact (same i k hi hk _ _).1 (hx _ ((mem _ _ _ _ _).2 ⟨ax i, k, hT2.1, by rw [hT2.2]; exact hk, rfl⟩))
  · intro hx x hm
    obtain ⟨j, k, hj, hk, rfl⟩ := (mem _ _ _ _ x).1 hm
    obtain ⟨i, hi, rfl⟩ := hT.sur j hj
    rw [(hT.axs a b i hi).2] at hk
    exact (same i k hi hk _ _).2 (hx _ ((mem _ _ _ _ _).2 ⟨i, k, hi, hk, rfl⟩))
theorem nd_mirror {wd hg h : Int} {g g' : List Int} {a b : Pl} {up : Int} (ha : onB wd hg a = true) (hb : onB wd hg b = true)
    (hv : ∀ p, onB wd hg p = true → hAt g' (mirW wd hg h) (mirP wd hg h p) = hAt g wd p) :
    ndI g' (mirW wd hg h) (mirP wd hg h a) up (mirP wd hg h b) = ndI g wd a up b := by
  have key : ∀ r, 0 ≤ r → (ndI g' (mirW wd hg h) (mirP wd hg h a) up (mirP wd hg h b) ≤ r ↔ ndI g wd a up b ≤ r) := fun r hr => by
    rw [← free_nd hr, ← free_nd hr, free_mirror ha hb hv]
  have h1 := (key _ (nd_nonneg g wd a up b)).2 (Int.le_refl _)
  have h2 := (key _ (nd_nonneg g' (mirW wd hg h) (mirP wd hg h a) up (mirP wd hg h b))).1 (Int.le_refl _)
  omega
end Go.Proofs.Ytjllkmekchmmbaa
