/- One fault in the signal of a word makes no other signal: the words. Plain. -/
import Derived.Test.YtgcaldceiogkaaaDoorS3
namespace Go.Proofs.YtgcaldceiogkaaaDoor

theorem val_inj {c d : UInt8} (hc : 0 ≤ valI c) (hd : 0 ≤ valI d) (h : valI c = valI d) : c = d := by rw [← sign_val hc, ← sign_val hd, h]
theorem let_at {w : List UInt8} (hw : wordB w = true) (i : Nat) (hi : i < w.length) : 1 ≤ valI (w.getD i 0) ∧ valI (w.getD i 0) ≤ 26 := valI_let_bd _ (getD_all (word_parts hw).2.2 hi)
theorem ext_getD {w x : List UInt8} (hl : w.length = x.length) (h : ∀ i, i < w.length → w.getD i 0 = x.getD i 0) : w = x := by
  apply List.ext_getElem hl
  intro i h1 h2
  have := h i h1
  rwa [List.getD_eq_getElem?_getD, List.getD_eq_getElem?_getD, List.getElem?_eq_getElem h1, List.getElem?_eq_getElem h2] at this
theorem mod_zero {a b : Int} (h : a % 29 = b % 29) : ∃ k, a - b = 29 * k := ⟨(a - b) / 29, by omega⟩
theorem nd_ne {n d k : Int} (h1 : 1 ≤ n) (h2 : n ≤ 10) (h3 : -25 ≤ d) (h4 : d ≤ 25) (h5 : d ≠ 0) : n * d ≠ 29 * k := by
  rcases (by omega : n = 1 ∨ n = 2 ∨ n = 3 ∨ n = 4 ∨ n = 5 ∨ n = 6 ∨ n = 7 ∨ n = 8 ∨ n = 9 ∨ n = 10) with rfl | rfl | rfl | rfl | rfl | rfl | rfl | rfl | rfl | rfl <;> omega

theorem diff_one {w x : List UInt8} (hw : wordB w = true) (hx : wordB x = true) (hl : x.length = w.length) (p : Nat) (hp : p < w.length + 3)
    (he : ∀ i, i < w.length + 3 → i ≠ p → (textL w).getD i 0 = (textL x).getD i 0) (hn : (textL w).getD p 0 ≠ (textL x).getD p 0) : False := by
  by_cases h0 : p = 0
  · subst h0; exact hn (by rw [text_0, text_0, hl])
  by_cases h1 : p ≤ w.length
  · obtain ⟨j, rfl⟩ : ∃ j, p = j + 1 := ⟨p - 1, by omega⟩
    have hj : j < w.length := by omega
    rw [text_w w j hj, text_w x j (by omega)] at hn
    have hP := he (w.length + 1) (by omega) (by omega)
    rw [text_p, ← hl, text_p] at hP
    obtain ⟨k, hk⟩ := mod_zero (sgn_inj hP)
    have hs := sum_one (f := fun i => valI (w.getD i 0)) (g := fun i => valI (x.getD i 0)) (j := j) x.length (fun i hi hij => by
      have := he (i + 1) (by omega) (by omega)
      rw [text_w w i (by omega), text_w x i hi] at this
      rw [this]) (by omega)
    unfold plainK at hk
    rw [hs] at hk
    have b1 := let_at hw j hj
    have b2 := let_at hx j (by omega)
    have hne : valI (w.getD j 0) ≠ valI (x.getD j 0) := fun e => hn (val_inj (by omega) (by omega) e)
    omega
  · have hwx : w = x := ext_getD hl.symm (fun i hi => by
      have := he (i + 1) (by omega) (by omega)
      rwa [text_w w i hi, text_w x i (by omega)] at this)
    exact hn (by rw [hwx])

theorem diff_two {w x : List UInt8} (hw : wordB w = true) (hx : wordB x = true) (hl : x.length = w.length) (p : Nat) (hp : p + 1 < w.length + 3)
    (he : ∀ i, i < w.length + 3 → i ≠ p → i ≠ p + 1 → (textL w).getD i 0 = (textL x).getD i 0) (hn : (textL w).getD p 0 ≠ (textL x).getD p 0) (hn' : (textL w).getD (p + 1) 0 ≠ (textL x).getD (p + 1) 0) : False := by
  have hlen := word_parts hw
  by_cases h0 : p = 0
  · subst h0; exact hn (by rw [text_0, text_0, hl])
  by_cases h1 : p + 1 ≤ w.length
  · obtain ⟨j, rfl⟩ : ∃ j, p = j + 1 := ⟨p - 1, by omega⟩
    have hj : j + 1 < w.length := by omega
    rw [text_w w j (by omega), text_w x j (by omega)] at hn
    rw [text_w w (j + 1) hj, text_w x (j + 1) (by omega)] at hn'
    have hP := he (w.length + 1) (by omega) (by omega) (by omega)
    rw [text_p, ← hl, text_p] at hP
    have hQ := he (w.length + 2) (by omega) (by omega) (by omega)
    rw [text_q, ← hl, text_q] at hQ
    obtain ⟨a, ha⟩ := mod_zero (sgn_inj hP)
    obtain ⟨b, hb⟩ := mod_zero (sgn_inj hQ)
    have eqi : ∀ i, i < x.length → i ≠ j → i ≠ j + 1 → w.getD i 0 = x.getD i 0 := fun i hi h2 h3 => by
      have := he (i + 1) (by omega) (by omega) (by omega)
      rwa [text_w w i (by omega), text_w x i hi] at this
    have s1 := sum_two (f := fun i => valI (w.getD i 0)) (g := fun i => valI (x.getD i 0)) (j := j) (n := x.length) (fun i hi h2 h3 => by rw [eqi i hi h2 h3]) (by omega)
    have s2 := sum_two (f := fun i => ((i : Int) + 1) * valI (w.getD i 0)) (g := fun i => ((i : Int) + 1) * valI (x.getD i 0)) (j := j) (n := x.length) (fun i hi h2 h3 => by rw [eqi i hi h2 h3]) (by omega)
    unfold plainK at ha
    unfold weighK at hb
    rw [s1] at ha
    rw [s2] at hb
    have b1 := let_at hw (j + 1) hj
    have b2 := let_at hx (j + 1) (by omega)
    have hne : valI (w.getD (j + 1) 0) ≠ valI (x.getD (j + 1) 0) := fun e => hn' (val_inj (by omega) (by omega) e)
    obtain ⟨d1, e1⟩ : ∃ d1, valI (w.getD j 0) - valI (x.getD j 0) = d1 := ⟨_, rfl⟩
    obtain ⟨d2, e2⟩ : ∃ d2, valI (w.getD (j + 1) 0) - valI (x.getD (j + 1) 0) = d2 := ⟨_, rfl⟩
    have f1 : ((j : Int) + 1) * valI (w.getD j 0) - ((j : Int) + 1) * valI (x.getD j 0) = ((j : Int) + 1) * d1 := by rw [← Int.mul_sub, e1]
    have f2 : (((j + 1 : Nat) : Int) + 1) * valI (w.getD (j + 1) 0) - (((j + 1 : Nat) : Int) + 1) * valI (x.getD (j + 1) 0) = ((j : Int) + 1) * d2 + d2 := by
      rw [← Int.mul_sub, e2, show (((j + 1 : Nat) : Int) + 1) = ((j : Int) + 1) + 1 by omega, Int.add_mul, Int.one_mul]
    rw [f1, f2] at hb
    rw [e1, e2] at ha
    have f3 : ((j : Int) + 1) * d1 = 29 * (((j : Int) + 1) * a) - ((j : Int) + 1) * d2 := by
      rw [show d1 = 29 * a - d2 by omega, Int.mul_sub, Int.mul_left_comm]
    obtain ⟨t, et⟩ : ∃ t, ((j : Int) + 1) * a = t := ⟨_, rfl⟩
    obtain ⟨u, eu⟩ : ∃ u, ((j : Int) + 1) * d2 = u := ⟨_, rfl⟩
    rw [et, eu] at f3
    rw [f3, eu] at hb
    omega
  · by_cases h2 : p = w.length
    · obtain ⟨j, hj⟩ : ∃ j, w.length = j + 1 := ⟨w.length - 1, by omega⟩
      have hjw : j < w.length := by omega
      rw [h2, hj, text_w w j hjw, text_w x j (by omega)] at hn
      have hQ := he (w.length + 2) (by omega) (by omega) (by omega)
      rw [text_q, ← hl, text_q] at hQ
      obtain ⟨b, hb⟩ := mod_zero (sgn_inj hQ)
      have s2 := sum_one (f := fun i => ((i : Int) + 1) * valI (w.getD i 0)) (g := fun i => ((i : Int) + 1) * valI (x.getD i 0)) (j := j) x.length (fun i hi hij => by
        have := he (i + 1) (by omega) (by omega) (by omega)
        rw [text_w w i (by omega), text_w x i hi] at this
        rw [this]) (by omega)
      unfold weighK at hb
      rw [s2, ← Int.mul_sub] at hb
      have b1 := let_at hw j hjw
      have b2 := let_at hx j (by omega)
      have hne : valI (w.getD j 0) ≠ valI (x.getD j 0) := fun e => hn (val_inj (by omega) (by omega) e)
      exact nd_ne (n := (j : Int) + 1) (by omega) (by omega) (by omega) (by omega) (by omega) hb
    · have hwx : w = x := ext_getD hl.symm (fun i hi => by
        have := he (i + 1) (by omega) (by omega) (by omega)
        rwa [text_w w i hi, text_w x i (by omega)] at this)
      exact hn (by rw [hwx])

theorem no_merge {w x : List UInt8} (hw : wordB w = true) (hx : wordB x = true) {i : List (List UInt8)} {c c' d : List UInt8} {q : List (List UInt8)} (hS : pcs w = i ++ c :: c' :: q) (hR : pcs x = i ++ d :: q) : False := by
  have hlw := word_parts hw
  have hlx := word_parts hx
  have hl : w.length = x.length + 1 := by
    have h1 := congrArg List.length hS
    have h2 := congrArg List.length hR
    rw [pcs_length] at h1 h2
    simp at h1 h2; omega
  by_cases hi : 0 < i.length
  · have h0 : (pcs w).getD 0 [] = (pcs x).getD 0 [] := by rw [hS, hR, mid_lt _ _ _ _ hi, mid_lt _ _ _ _ hi]
    have := pcs_eq hw hx 0 0 (by omega) (by omega) h0
    rw [text_0, text_0] at this
    have := sgn_inj this
    omega
  · have e0 : i = [] := List.length_eq_zero_iff.1 (by omega)
    subst e0
    have hsh : ∀ k, k + 1 < x.length + 3 → (textL w).getD (k + 2) 0 = (textL x).getD (k + 1) 0 := fun k hk => by
      refine pcs_eq hw hx (k + 2) (k + 1) (by omega) (by omega) ?_
      rw [hS, hR]; rfl
    have hP := hsh x.length (by omega)
    rw [show x.length + 2 = w.length + 1 by omega, text_p, text_p] at hP
    obtain ⟨k, hk⟩ := mod_zero (sgn_inj hP)
    have hs := sum_shift (fun i => valI (w.getD i 0)) x.length
    have hc : sumTo (fun i => valI (w.getD (i + 1) 0)) x.length = sumTo (fun i => valI (x.getD i 0)) x.length := sumTo_congr _ (fun i hi => by
      have := hsh i (by omega)
      rw [text_w w (i + 1) (by omega), text_w x i hi] at this
      rw [this])
    unfold plainK at hk
    rw [hl, hs, hc] at hk
    have b1 := let_at hw 0 (by omega)
    omega

theorem no_more {w x : List UInt8} (hx : wordB x = true) {i : List (List UInt8)} {c c' : List UInt8} {q : List (List UInt8)} (hS : pcs w = i ++ c :: c' :: q) (hR : pcs x = i ++ c :: [] :: c' :: q) : False := by
  have h1 := congrArg List.length hS
  have h2 := congrArg List.length hR
  rw [pcs_length] at h1 h2
  simp at h1 h2
  have h3 : (pcs x).getD (i.length + 1) [] = [] := by rw [hR, mid_ge]; rfl
  have h4 : x.length + 3 ≤ i.length + 1 := by
    apply Classical.byContradiction
    intro h
    exact pcs_ne hx _ (by omega) h3
  have h5 : (pcs x).getD i.length [] = c := by rw [hR, show i.length = i.length + 0 from rfl, mid_ge]; rfl
  have h6 : (pcs w).getD i.length [] = c := by rw [hS, show i.length = i.length + 0 from rfl, mid_ge]; rfl
  rw [pcs_end w _ (by omega)] at h6
  exact pcs_ne hx i.length (by omega) (h5.trans h6.symm)

/-- What parts so from the signal of a word, and is one, is this signal. -/
theorem noticed_parts {w x : List UInt8} (hw : wordB w = true) (hx : wordB x = true) (h : Parts1 (pcs w) (pcs x)) : signalL x = signalL w := by
  have len_of : ∀ {i : List (List UInt8)} {a b : List (List UInt8)}, pcs w = i ++ a → pcs x = i ++ b → a.length = b.length → x.length = w.length := fun h1 h2 h3 => by
    have e1 := congrArg List.length h1
    have e2 := congrArg List.length h2
    rw [pcs_length] at e1 e2
    simp at e1 e2; omega
  have small : ∀ {p : Nat}, x.length = w.length → (pcs w).getD p [] ≠ (pcs x).getD p [] → p < w.length + 3 := fun hl hne => by
    apply Classical.byContradiction
    intro hc
    exact hne (by rw [pcs_end w _ (by omega), pcs_end x _ (by omega)])
  have tx : ∀ {p : Nat}, x.length = w.length → p < w.length + 3 → (pcs w).getD p [] ≠ (pcs x).getD p [] → (textL w).getD p 0 ≠ (textL x).getD p 0 := fun hl hp hne e => by
    apply hne; rw [pcs_at w _ hp, pcs_at x _ (by omega), e]
  cases h with
  | same h =>
    rw [← split_signal, ← split_signal] at h
    have h1 := joinB_split (signalL w)
    have h2 := joinB_split (signalL x)
    rw [h, h2] at h1
    exact List.append_cancel_right h1
  | one i c d q hS hR h =>
    have hl := len_of hS hR (by simp)
    have hp : (pcs w).getD i.length [] ≠ (pcs x).getD i.length [] := by
      rw [hS, hR, show i.length = i.length + 0 from rfl, mid_ge, mid_ge]; exact h
    have hs := small hl hp
    exact (diff_one hw hx hl i.length hs (fun k hk hne => pcs_eq hw hx k k hk (by omega) (by
      rw [hS, hR]
      by_cases hki : k < i.length
      · rw [mid_lt _ _ _ _ hki, mid_lt _ _ _ _ hki]
      · obtain ⟨m, rfl⟩ : ∃ m, k = i.length + (m + 1) := ⟨k - i.length - 1, by omega⟩
        rw [mid_ge, mid_ge]; rfl)) (tx hl hs hp)).elim
  | two i c c' d d' q hS hR h h' =>
    have hl := len_of hS hR (by simp)
    have hp : (pcs w).getD i.length [] ≠ (pcs x).getD i.length [] := by
      rw [hS, hR, show i.length = i.length + 0 from rfl, mid_ge, mid_ge]; exact h
    have hp' : (pcs w).getD (i.length + 1) [] ≠ (pcs x).getD (i.length + 1) [] := by
      rw [hS, hR, mid_ge, mid_ge]; exact h'
    have hs := small hl hp'
    exact (diff_two hw hx hl i.length hs (fun k hk hne hne' => pcs_eq hw hx k k hk (by omega) (by
      rw [hS, hR]
      by_cases hki : k < i.length
      · rw [mid_lt _ _ _ _ hki, mid_lt _ _ _ _ hki]
      · obtain ⟨m, rfl⟩ : ∃ m, k = i.length + (m + 2) := ⟨k - i.length - 2, by omega⟩
        rw [mid_ge, mid_ge]; rfl)) (tx hl (by omega) hp) (tx hl hs hp')).elim
  | merge i c c' d q hS hR => exact (no_merge hw hx hS hR).elim
  | more i c c' q hS hR => exact (no_more hx hS hR).elim
end Go.Proofs.YtgcaldceiogkaaaDoor
