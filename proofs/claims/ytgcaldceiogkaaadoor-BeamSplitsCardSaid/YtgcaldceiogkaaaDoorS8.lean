/- Signals one behind the other are split into these; the time of two streams. Plain. -/
import Derived.Test.YtgcaldceiogkaaaDoorS7
import Derived.Test.YtgcaldceiogkaaaDoorS1
namespace Go.Proofs.YtgcaldceiogkaaaDoor

theorem end_free : ∀ (c X : List UInt8), (47 : UInt8) ∉ c → endL (c ++ X) = if endL X = 0 then 0 else endL X + c.length
  | [], X, _ => by
    by_cases h0 : endL X = 0
    · rw [if_pos h0]; exact h0
    · rw [if_neg h0]; rfl
  | b :: c, X, h => by
    have hb : b ≠ 47 := fun e => h (by rw [e]; simp)
    have ih := end_free c X (fun k => h (List.mem_cons_of_mem _ k))
    rw [List.cons_append, endL_cons, if_neg (fun k => hb k.1)]
    by_cases h0 : endL X = 0
    · rw [if_pos h0] at ih ⊢
      rw [if_pos ih]
    · rw [if_neg h0] at ih ⊢
      rw [if_neg (by omega), ih, List.length_cons]; omega
theorem end_join : ∀ (cs : List (List UInt8)) (t : List UInt8), cs ≠ [] → Free cs → (∀ c ∈ cs, c ≠ []) → endL (joinB cs ++ 47 :: t) = (joinB cs).length + 1
  | [], _, h, _, _ => absurd rfl h
  | [c], t, _, hf, _ => by
    have e : endL (47 :: 47 :: t) = 2 := by rw [endL_cons, if_pos ⟨rfl, rfl⟩]
    have h1 : joinB [c] ++ 47 :: t = c ++ 47 :: 47 :: t := by rw [joinB_cons, joinB_nil]; simp
    have h2 : (joinB [c]).length = c.length + 1 := by rw [joinB_cons, joinB_nil]; simp
    rw [h1, end_free _ _ hf.hd, e, h2, if_neg (by decide)]; omega
  | c :: d :: ds, t, _, hf, hne => by
    have ih := end_join (d :: ds) t (by simp) hf.tl (fun x hx => hne x (List.mem_cons_of_mem _ hx))
    have hh : ¬ ((47 : UInt8) = 47 ∧ (joinB (d :: ds) ++ 47 :: t).head? = some 47) := by
      rintro ⟨_, h⟩
      rw [joinB_cons] at h
      cases d with
      | nil => exact hne [] (by simp) rfl
      | cons x d =>
        simp at h
        exact hf (x :: d) (by simp) (by rw [h]; simp)
    have e : endL (47 :: (joinB (d :: ds) ++ 47 :: t)) = (joinB (d :: ds)).length + 2 := by
      rw [endL_cons, if_neg hh, ih, if_neg (by omega)]
    have h2 : (joinB (c :: d :: ds)).length = c.length + 1 + (joinB (d :: ds)).length := by rw [joinB_cons]; simp; omega
    rw [joinB_cons, List.append_assoc, List.cons_append, end_free _ _ hf.hd, e, if_neg (by omega), ← joinB_cons, h2]; omega
theorem cds_ne {t : List UInt8} (h : ∀ x ∈ t, 0 ≤ valI x) : ∀ c ∈ t.map cdOf, c ≠ [] := fun c hc => by
  obtain ⟨x, hx, rfl⟩ := List.mem_map.1 hc
  exact code_ne _ (val_nat (h x hx))
theorem end_signal {w : List UInt8} (hw : wordB w = true) (t : List UInt8) : endL (signalL w ++ t) = (signalL w).length := by
  rw [signal_join, List.append_assoc, List.cons_append, List.nil_append, end_join _ _ (text_ne w) (cds_free _) (cds_ne (valI_text hw))]
  simp
theorem split_signals : ∀ (ws : List (List UInt8)) (n : Nat), (∀ w ∈ ws, wordB w = true) → (ws.map signalL).flatten.length ≤ n → splitN n (ws.map signalL).flatten = (ws.map signalL, [])
  | [], n, _, _ => splitN_none n [] rfl
  | w :: ws, n, hw, hn => by
    have h1 := hw w (by simp)
    have he := end_signal h1 (ws.map signalL).flatten
    rw [List.map_cons, List.flatten_cons] at hn ⊢
    have hpos : 2 ≤ (signalL w).length := by rw [← he]; exact (end_spec _ (by rw [he]; unfold signalL; simp)).1
    obtain ⟨m, rfl, hm, e⟩ := splitN_some n (signalL w ++ (ws.map signalL).flatten) (by rw [he]; omega) hn
    rw [he] at hm e
    rw [e]
    rw [List.drop_left, List.take_left]
    rw [List.drop_left] at hm
    rw [split_signals ws m (fun x hx => hw x (List.mem_cons_of_mem _ hx)) hm]
theorem splitP_signals {ws : List (List UInt8)} (hw : ∀ w ∈ ws, wordB w = true) : splitP (ws.map signalL).flatten = (ws.map signalL, []) := split_signals ws _ hw (Nat.le_refl _)

theorem signal_len {w : List UInt8} (hw : wordB w = true) : (signalL w).length ≤ 100 := by
  have := flashE_le' (signal_flash hw); omega
theorem signal_all {w : List UInt8} (hw : wordB w = true) : (signalL w).all flashB = true := by
  have h := signal_flash hw
  unfold flashE at h
  split at h
  · cases h
  · split at h
    · assumption
    · cases h
theorem flash_signals : ∀ {ws : List (List UInt8)}, (∀ w ∈ ws, wordB w = true) → (ws.map signalL).flatten.length ≤ 100 * ws.length ∧ (ws.map signalL).flatten.all flashB = true
  | [], _ => ⟨by simp, rfl⟩
  | w :: ws, hw => by
    obtain ⟨h1, h2⟩ := flash_signals (ws := ws) (fun x hx => hw x (List.mem_cons_of_mem _ hx))
    have h3 := signal_len (hw w (by simp))
    have h4 := signal_all (hw w (by simp))
    rw [List.map_cons, List.flatten_cons]
    refine ⟨by simp only [List.length_append, List.length_cons]; omega, ?_⟩
    rw [List.all_append, h4, h2]; rfl
theorem flash_stream {ws : List (List UInt8)} (hw : ∀ w ∈ ws, wordB w = true) (hl : ws.length ≤ 8) : flashE (ws.map signalL).flatten 4000 = 0 := by
  obtain ⟨h1, h2⟩ := flash_signals hw
  unfold flashE
  rw [if_neg (by omega), if_pos h2]

/-! ### Time -/
theorem cost_left (a b : List UInt8) (k : Nat) (h : k ≤ a.length) : costK (a ++ b) k = costK a k := sumTo_congr k (fun i hi => by
  rw [List.getD_eq_getElem?_getD, List.getD_eq_getElem?_getD, List.getElem?_append_left (by omega)])
theorem cost_right (a b : List UInt8) : ∀ k : Nat, costK (a ++ b) (a.length + k) = costK a a.length + costK b k
  | 0 => by rw [Nat.add_zero, cost_left a b _ (Nat.le_refl _)]; simp [costK, sumTo]
  | k + 1 => by
    rw [show a.length + (k + 1) = (a.length + k) + 1 by omega, costK_succ, cost_right a b k, costK_succ]
    have : (a ++ b).getD (a.length + k) 0 = b.getD k 0 := by
      rw [List.getD_eq_getElem?_getD, List.getD_eq_getElem?_getD, List.getElem?_append_right (by omega)]; congr 2; omega
    rw [this]; omega
theorem flash_parts {s : List UInt8} {m : Int} (h : flashE s m = 0) : (s.length : Int) ≤ m ∧ s.all flashB = true := by
  refine ⟨flashE_le' h, ?_⟩
  unfold flashE at h
  split at h
  · cases h
  · split at h
    · assumption
    · cases h
theorem time_two {a b : List UInt8} (ha : flashE a 4000 = 0) (hb : flashE b 4000 = 0) (hl : a.length + b.length ≤ 4000) : timeV (a ++ b) = .tuple #[.int .i64 (costK a a.length + costK b b.length), .int .i64 0] := by
  have hf : flashE (a ++ b) 4000 = 0 := by
    unfold flashE
    rw [if_neg (by simp; omega), if_pos (by rw [List.all_append, (flash_parts ha).2, (flash_parts hb).2]; rfl)]
  unfold timeV
  rw [if_pos hf, List.length_append, cost_right]
end Go.Proofs.YtgcaldceiogkaaaDoor
