/- Theory of ridge: a line of sight from both ends, with taller masts. -/
import Derived.Test.YtnacgogcbbpjmaaHA9
import Derived.Test.YtnacgogcbbpjmaaHB3
import Derived.Test.YtnacgogcbbpjmaaHT3
set_option linter.unusedVariables false
set_option linter.unusedSimpArgs false
namespace Go.Proofs.Ytnacgogcbbpjmaa
open Go Go.RowKit

theorem atP_symm (n k f t : Int) : atP n k f t = atP n (n - k) t f := by
  unfold atP
  rw [show n - (n - k) = k by omega]; exact Int.add_comm _ _
theorem grP_symm (g : List Int) (wd n k : Int) (f t : Pl) : grP g wd n k f t = grP g wd n (n - k) t f := by
  have e1 := atP_symm n k f.1 t.1
  have e2 := atP_symm n k f.2 t.2
  unfold grP beyP loP hiP
  rw [e1, e2]
theorem dist_symm (x y : Int) : dist x y = dist y x := by unfold dist; omega
theorem freeB_iff {g : List Int} {wd : Int} {a b : Pl} {up rise : Int} : freeB g wd a up b rise = true ↔ ∀ x ∈ mts g wd a b, x.g ≤ partI x (hAt g wd a + up) (hAt g wd b + rise) := by
  unfold freeB blk
  rw [List.isEmpty_iff, List.map_eq_nil_iff, List.filter_eq_nil_iff]
  refine forall_congr' fun x => forall_congr' fun _ => ?_
  unfold overB
  rw [decide_eq_true_eq, Int.not_lt]
theorem freeB_half {g : List Int} {wd : Int} {a b : Pl} {up rise : Int} (h : freeB g wd a up b rise = true) : freeB g wd b rise a up = true := by
  rw [freeB_iff] at h ⊢
  intro x hx
  obtain ⟨i, k, hik, rfl⟩ := (mts_mem x).1 hx
  have hd1 := dist_symm a.1 b.1
  have hd2 := dist_symm a.2 b.2
  have hn : axN b a i = axN a b i := by unfold axN; rw [hd1, hd2]
  have hkn : 1 ≤ k ∧ (k : Int) < axN a b i := by
    unfold axN
    rcases hik with ⟨rfl, h1, h2⟩ | ⟨rfl, h1, h2⟩
    · rw [← hd1] at h2; rw [if_pos rfl]; omega
    · rw [← hd2] at h2; rw [if_neg (by decide)]; omega
  obtain ⟨m, hm⟩ : ∃ m : Nat, (axN a b i : Int) - k = m := ⟨(axN a b i - k).toNat, by omega⟩
  have hx' : mkM g wd a b (i, m) ∈ mts g wd a b := (mts_mem _).2 ⟨i, m, by
    unfold axN at hkn hm
    rcases hik with ⟨rfl, h1, h2⟩ | ⟨rfl, h1, h2⟩
    · rw [if_pos rfl] at hkn hm; exact .inl ⟨rfl, by omega, by omega⟩
    · rw [if_neg (by decide)] at hkn hm; exact .inr ⟨rfl, by omega, by omega⟩, rfl⟩
  have h2 := h _ hx'
  unfold mkM partI at h2 ⊢
  simp only at h2 ⊢
  rw [hn]
  rw [grP_symm g wd (axN a b i) k b a, hm]
  refine Int.le_trans h2 (Int.le_of_eq ?_)
  rw [show axN a b i - (m : Int) = k by omega]
  exact Int.add_comm _ _
theorem freeB_symm (g : List Int) (wd : Int) (a b : Pl) (up rise : Int) : freeB g wd a up b rise = freeB g wd b rise a up := by
  cases h : freeB g wd a up b rise with
  | true => exact (freeB_half h).symm
  | false =>
    cases h2 : freeB g wd b rise a up with
    | false => rfl
    | true => rw [freeB_half h2] at h; cases h
theorem freeB_more {g : List Int} {wd : Int} {a b : Pl} {up rise up' rise' : Int} (h : freeB g wd a up b rise = true) (h1 : up ≤ up') (h2 : rise ≤ rise') : freeB g wd a up' b rise' = true := by
  rw [freeB_iff] at h ⊢
  intro x hx
  refine Int.le_trans (h x hx) ?_
  obtain ⟨i, k, hik, rfl⟩ := (mts_mem x).1 hx
  have hk : 0 ≤ (k : Int) ∧ (k : Int) ≤ axN a b i := by
    unfold axN
    rcases hik with ⟨rfl, h1, h2⟩ | ⟨rfl, h1, h2⟩
    · rw [if_pos rfl]; omega
    · rw [if_neg (by decide)]; omega
  unfold mkM partI
  simp only
  exact Int.add_le_add (Int.mul_le_mul_of_nonneg_left (by omega) (by omega)) (Int.mul_le_mul_of_nonneg_left (by omega) (by omega))
end Go.Proofs.Ytnacgogcbbpjmaa

/-! Theory of ridge: the least height with which a line is free. -/
set_option linter.unusedVariables false
set_option linter.unusedSimpArgs false
namespace Go.Proofs.Ytnacgogcbbpjmaa
open Go Go.RowKit

theorem lift_iff {g p k r : Int} (hk : 1 ≤ k) (hr : 0 ≤ r) : (g - p + k - 1).tdiv k ≤ r ↔ g ≤ p + k * r := by
  have hkr : 0 ≤ k * r := Int.mul_nonneg (by omega) hr
  by_cases h : g - p + k - 1 < 0
  · constructor
    · intro _; omega
    · intro _
      have h1 := Int.tdiv_nonneg (show 0 ≤ -(g - p + k - 1) by omega) (show 0 ≤ k by omega)
      rw [Int.neg_tdiv] at h1
      omega
  · rw [Int.tdiv_eq_ediv_of_nonneg (by omega)]
    constructor
    · intro h2
      have h3 := (Int.ediv_le_iff_le_mul (show 0 < k by omega)).1 h2
      have e : r * k = k * r := Int.mul_comm ..
      omega
    · intro h2
      refine (Int.ediv_le_iff_le_mul (show 0 < k by omega)).2 ?_
      have e : r * k = k * r := Int.mul_comm ..
      omega
theorem fold_max_le {l : List Int} : ∀ {a r : Int}, l.foldl max a ≤ r ↔ a ≤ r ∧ ∀ x ∈ l, x ≤ r := by
  induction l with
  | nil => intro a r; simp
  | cons y t ih =>
    intro a r
    rw [List.foldl_cons, ih]
    simp only [List.mem_cons, forall_eq_or_imp]
    constructor
    · rintro ⟨h1, h2⟩; exact ⟨by omega, by omega, h2⟩
    · rintro ⟨h1, h2, h3⟩; exact ⟨by omega, h3⟩
theorem part_add (x : Mt) (u v r : Int) : partI x u (v + r) = partI x u v + x.k * r := by
  unfold partI
  rw [Int.mul_add]; omega
theorem free_nd {g : List Int} {wd : Int} {a b : Pl} {up rise : Int} (hr : 0 ≤ rise) : freeB g wd a up b rise = true ↔ ndI g wd a up b ≤ rise := by
  rw [freeB_iff]
  unfold ndI
  rw [fold_max_le]
  constructor
  · intro h
    refine ⟨hr, fun y hy => ?_⟩
    obtain ⟨x, hx, rfl⟩ := List.mem_map.1 hy
    obtain ⟨i, k, hik, rfl⟩ := (mts_mem x).1 hx
    have h1 := h _ hx
    unfold liftI
    refine (lift_iff (by unfold mkM; simp only; omega) hr).2 (Int.le_trans h1 (Int.le_of_eq ?_))
    exact part_add _ _ _ _
  · rintro ⟨_, h⟩ x hx
    have h1 := h _ (List.mem_map.2 ⟨x, hx, rfl⟩)
    obtain ⟨i, k, hik, rfl⟩ := (mts_mem x).1 hx
    unfold liftI at h1
    have h2 := (lift_iff (by unfold mkM; simp only; omega) hr).1 h1
    exact Int.le_trans h2 (Int.le_of_eq (part_add _ _ _ _).symm)
theorem nd_nonneg (g : List Int) (wd : Int) (a : Pl) (up : Int) (b : Pl) : 0 ≤ ndI g wd a up b := by
  have h : ndI g wd a up b ≤ ndI g wd a up b := Int.le_refl _
  unfold ndI at h ⊢
  exact ((fold_max_le (r := _)).1 h).1
theorem free_dec (g : List Int) (wd : Int) (a b : Pl) (up rise : Int) (hr : 0 ≤ rise) : freeB g wd a up b rise = decide (ndI g wd a up b ≤ rise) := by
  rw [Bool.eq_iff_iff, free_nd hr, decide_eq_true_eq]
end Go.Proofs.Ytnacgogcbbpjmaa

/-! Theory of ridge: heights by fractions in lowest terms. -/
set_option linter.unusedVariables false
set_option linter.unusedSimpArgs false
namespace Go.Proofs.Ytnacgogcbbpjmaa
open Go Go.RowKit

theorem low_parts {k n : Int} (hn : 1 ≤ n) : ∃ c : Int, 0 < c ∧ k = c * (lowP k n).1 ∧ n = c * (lowP k n).2 ∧ 1 ≤ (lowP k n).2 ∧ (lowP k n).2 ≤ n := by
  obtain ⟨k', hk⟩ : (Int.gcd k n : Int) ∣ k := Int.gcd_dvd_left ..
  obtain ⟨n', hn'⟩ : (Int.gcd k n : Int) ∣ n := Int.gcd_dvd_right ..
  have g1 : 0 < (Int.gcd k n : Int) := by have := Int.gcd_pos_of_ne_zero_right k (by omega : n ≠ 0); omega
  unfold lowP
  obtain ⟨g, hg⟩ : ∃ g, (Int.gcd k n : Int) = g := ⟨_, rfl⟩
  rw [hg] at hk hn' g1 ⊢
  have q1 : k / g = k' := by rw [hk]; exact Int.mul_ediv_cancel_left _ (by omega)
  have q2 : n / g = n' := by rw [hn']; exact Int.mul_ediv_cancel_left _ (by omega)
  simp only
  rw [q1, q2]
  have hp : 1 ≤ n' := by
    rcases Int.lt_or_le 0 n' with h | h
    · omega
    · have := Int.mul_le_mul_of_nonneg_left h (show 0 ≤ g by omega)
      rw [Int.mul_zero] at this; omega
  refine ⟨g, g1, hk, hn', hp, ?_⟩
  have := Int.mul_le_mul_of_nonneg_right (show 1 ≤ g by omega) (show 0 ≤ n' by omega)
  omega
def ceilP (x d : Int) : Int := if x ≤ 0 then 0 else (x + d - 1) / d
theorem ceil_iff {x d r : Int} (hd : 1 ≤ d) (hr : 0 ≤ r) : ceilP x d ≤ r ↔ x ≤ d * r := by
  have h0 : 0 ≤ d * r := Int.mul_nonneg (by omega) hr
  have e : r * d = d * r := Int.mul_comm ..
  unfold ceilP
  by_cases h : x ≤ 0
  · rw [if_pos h]; omega
  · rw [if_neg h, Int.ediv_le_iff_le_mul (by omega)]; omega
theorem ceil_nonneg {x d : Int} (hd : 1 ≤ d) : 0 ≤ ceilP x d := by
  unfold ceilP
  by_cases h : x ≤ 0
  · rw [if_pos h]; exact Int.le_refl _
  · rw [if_neg h]; exact Int.ediv_nonneg (by omega) (by omega)
/-- What a crossing lacks to be free, with all fractions in lowest terms. -/
def lackP (x : Mt) (u v : Int) : Int := (lowP x.g x.n).1 * (lowP x.k x.n).2 - (u * ((lowP x.k x.n).2 - (lowP x.k x.n).1) + v * (lowP x.k x.n).1) * (lowP x.g x.n).2
theorem lack_alg {c d a b e f k n g u v : Int} (k1 : k = c * a) (k2 : n = c * b) (g1 : g = d * e) (g2 : n = d * f) : c * d * (e * b - (u * (b - a) + v * a) * f) = n * (g - ((n - k) * u + k * v)) ∧ c * d * (a * f) = n * k := by
  have h1 : c * d * (e * b) = n * g := by
    have : c * d * (e * b) = (c * b) * (d * e) := by simp only [Int.mul_assoc, Int.mul_left_comm, Int.mul_comm]
    rw [this, ← k2, ← g1]
  have h3 : c * (u * (b - a) + v * a) = (n - k) * u + k * v := by
    rw [k1]; conv => rhs; rw [k2]
    rw [Int.mul_add, ← Int.mul_sub]
    simp only [Int.mul_assoc, Int.mul_left_comm, Int.mul_comm]
  have h2 : c * d * ((u * (b - a) + v * a) * f) = n * ((n - k) * u + k * v) := by
    rw [← h3]
    obtain ⟨z, hz⟩ : ∃ z, u * (b - a) + v * a = z := ⟨_, rfl⟩
    rw [hz]
    have : c * d * (z * f) = (d * f) * (c * z) := by simp only [Int.mul_assoc, Int.mul_left_comm, Int.mul_comm]
    rw [this, ← g2]
  refine ⟨by rw [Int.mul_sub, h1, h2, Int.mul_sub], ?_⟩
  have : c * d * (a * f) = (d * f) * (c * a) := by simp only [Int.mul_assoc, Int.mul_left_comm, Int.mul_comm]
  rw [this, ← g2, ← k1]
theorem lack_mul {x : Mt} (u v : Int) (hn : 1 ≤ x.n) : ∃ c, 0 < c ∧ c * lackP x u v = x.n * (x.g - partI x u v) ∧ c * ((lowP x.k x.n).1 * (lowP x.g x.n).2) = x.n * x.k := by
  obtain ⟨c, hc, k1, k2, _⟩ := low_parts (k := x.k) hn
  obtain ⟨d, hd, g1, g2, _⟩ := low_parts (k := x.g) hn
  exact ⟨c * d, Int.mul_pos hc hd, (lack_alg k1 k2 g1 g2).1, (lack_alg (u := u) (v := v) k1 k2 g1 g2).2⟩
theorem lack_le {x : Mt} {u v r : Int} (hn : 1 ≤ x.n) : lackP x u v ≤ (lowP x.k x.n).1 * (lowP x.g x.n).2 * r ↔ x.g ≤ partI x u v + x.k * r := by
  obtain ⟨c, hc, h1, h2⟩ := lack_mul u v hn
  rw [← Int.mul_le_mul_left hc, h1, ← Int.mul_assoc, h2, Int.mul_assoc, Int.mul_le_mul_left (by omega)]
  omega
theorem over_iff {x : Mt} {u v : Int} (hn : 1 ≤ x.n) : (u * ((lowP x.k x.n).2 - (lowP x.k x.n).1) + v * (lowP x.k x.n).1) * (lowP x.g x.n).2 < (lowP x.g x.n).1 * (lowP x.k x.n).2 ↔ partI x u v < x.g := by
  have h := lack_le (x := x) (u := u) (v := v) (r := 0) hn
  unfold lackP at h
  rw [Int.mul_zero, Int.mul_zero] at h
  omega
theorem ceil_lift {x : Mt} {u v : Int} (hk : 1 ≤ x.k) (hn : 1 ≤ x.n) (hd : 1 ≤ (lowP x.k x.n).1 * (lowP x.g x.n).2) : ceilP (lackP x u v) ((lowP x.k x.n).1 * (lowP x.g x.n).2) = max 0 (liftI u v x) := by
  have h : ∀ r, 0 ≤ r → (ceilP (lackP x u v) ((lowP x.k x.n).1 * (lowP x.g x.n).2) ≤ r ↔ max 0 (liftI u v x) ≤ r) := fun r hr => by
    rw [ceil_iff hd hr, lack_le hn]
    unfold liftI
    rw [← lift_iff hk hr]; omega
  have h1 := (h _ (ceil_nonneg (x := lackP x u v) hd)).1 (Int.le_refl _)
  have h2 := (h (max 0 (liftI u v x)) (by omega)).2 (Int.le_refl _)
  omega
theorem vl_zero (wd hg : Int) (g : List Int) (a b : Pl) (u : Int) : vlB wd hg g a b [u, 0] = vlB wd hg g a b [u] ∧ vlB wd hg g a b [0, u] = vlB wd hg g a b [u] := by
  unfold vlB tallB wiB
  simp
theorem ln_zero (wd hg : Int) (g : List Int) (a b : Pl) (u : Int) : lnE wd hg g a b [u, 0] = lnE wd hg g a b [u] ∧ lnE wd hg g a b [0, u] = lnE wd hg g a b [u] := by
  unfold lnE
  rw [(vl_zero wd hg g a b u).1, (vl_zero wd hg g a b u).2]; exact ⟨rfl, rfl⟩
end Go.Proofs.Ytnacgogcbbpjmaa
