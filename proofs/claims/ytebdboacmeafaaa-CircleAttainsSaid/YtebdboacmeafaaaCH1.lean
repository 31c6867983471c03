/- Theory: without a contradiction there is a zero at each minute (T4), and a wedge holds a place exactly if a zero explains the reading (for CircleSharp). -/
import Derived.Test.YtebdboacmeafaaaCG2
import Derived.Test.YtebdboacmeafaaaCE3
set_option linter.unusedVariables false
set_option linter.unusedSimpArgs false
namespace Go.Proofs.Ytebdboacmeafaaa
open Go Go.RowKit

theorem fr_tri {dr a b t : Int} (hd : 0 ≤ dr) : frI dr a b ≤ frI dr a t + frI dr b t := by
  unfold frI
  have h1 : dr * max (a - b) (b - a) ≤ dr * (max (a - t) (t - a) + max (b - t) (t - b)) := Int.mul_le_mul_of_nonneg_left (by omega) hd
  rw [Int.mul_add] at h1
  omega
theorem fold_max_le {x : Int} : ∀ {l : List Int} {a : Int}, a ≤ x → (∀ y ∈ l, y ≤ x) → l.foldl max a ≤ x
  | [], a, h, _ => h
  | y :: l, a, h, h2 => by
    have := h2 y (List.mem_cons_self ..)
    exact fold_max_le (l := l) (a := max a y) (by omega) (fun z hz => h2 z (List.mem_cons_of_mem _ hz))
theorem fold_min_le {x : Int} : ∀ {l : List Int} {a : Int}, x ≤ a → (∀ y ∈ l, x ≤ y) → x ≤ l.foldl min a
  | [], a, h, _ => h
  | y :: l, a, h, h2 => by
    have := h2 y (List.mem_cons_self ..)
    exact fold_min_le (l := l) (a := min a y) (by omega) (fun z hz => h2 z (List.mem_cons_of_mem _ hz))
theorem th_le {cs : List Ci} {ks : List Ck} (ho : CcOk cs ks) {id : Int} {z : Ci} (hz : ciF cs id = some z) : ∀ h ∈ thL z ks, h.no = false → h.lo ≤ h.hi := by
  intro h hm hn
  unfold thL at hm
  rcases List.mem_cons.1 hm with rfl | hm
  · have := Ci.ok_iff.1 (ciF_ok ho hz)
    unfold Th.beg
    simp only
    omega
  · obtain ⟨k, hk, rfl⟩ := List.mem_map.1 hm
    unfold Th.of at hn ⊢
    simp only at hn ⊢
    have hb : alB z.x z.y k = true := by simpa using hn
    rw [if_pos hb, if_pos hb]
    unfold alB at hb
    simpa using hb
/-- T4: without a contradiction some zero is possible at each minute. -/
theorem sp_le {cs : List Ci} {ks : List Ck} (ho : CcOk cs ks) {id t : Int} {z : Ci} (hz : ciF cs id = some z) (ht : 0 ≤ t ∧ t ≤ 1048576) (hc : clL z.dr (dlL z ks) = []) : spLo z.dr (dlL z ks) t ≤ spHi z.dr (dlL z ks) t := by
  have hzo := Ci.ok_iff.1 (ciF_ok ho hz)
  have hids := thL_ids ho z
  have hord : (dlL z ks).Pairwise fun s t => s.id < t.id := by
    have h1 := srtH_ord (thL z ks)
    have h2 : ((srtH (thL z ks)).map Th.id).Nodup := ((srtH_perm (thL z ks)).map Th.id).nodup_iff.2 hids
    rw [List.Nodup, List.pairwise_map] at h2
    exact (h1.and h2).imp (fun {a b} h => by have := h.1; have := h.2; omega)
  obtain ⟨_, c2⟩ := clL_spec z.dr hord
  rw [hc] at c2
  have hmem : ∀ x, x ∈ dlL z ks ↔ x ∈ thL z ks := fun x => (srtH_perm (thL z ks)).mem_iff
  have hno : ∀ a ∈ dlL z ks, a.no = false := fun a ha => by
    cases h : a.no
    · rfl
    · have := (c2 (a.id, a.id)).2 ⟨a, ha, .inl ⟨h, rfl⟩⟩; simp at this
  have hcl : ∀ a ∈ dlL z ks, ∀ b ∈ dlL z ks, a.id < b.id → clB z.dr a b = false := fun a ha b hb hab => by
    cases h : clB z.dr a b
    · rfl
    · have := (c2 (a.id, b.id)).2 ⟨a, ha, .inr ⟨b, hb, hab, h, rfl⟩⟩; simp at this
  have hfr : ∀ a b, frI z.dr a b = frI z.dr b a := fun a b => by unfold frI; rw [show max (a - b) (b - a) = max (b - a) (a - b) by omega]
  have key : ∀ a ∈ dlL z ks, ∀ b ∈ dlL z ks, a.id < b.id → lowI z.dr a t ≤ highI z.dr b t ∧ lowI z.dr b t ≤ highI z.dr a t := fun a ha b hb hab => by
    have h := hcl a ha b hb hab
    unfold clB at h
    rw [hno a ha, hno b hb] at h
    have h1 := fr_tri (dr := z.dr) (a := a.t) (b := b.t) (t := t) (by omega)
    simp only [Bool.not_false, Bool.true_and, Bool.or_eq_false_iff, decide_eq_false_iff_not] at h
    unfold lowI highI
    omega
  have hall : ∀ a ∈ dlL z ks, ∀ b ∈ dlL z ks, lowI z.dr a t ≤ highI z.dr b t := fun a ha b hb => by
    rcases Int.lt_trichotomy a.id b.id with h | h | h
    · exact (key a ha b hb h).1
    · have hab : a = b := by
        obtain ⟨i, hi, ea⟩ := List.getElem_of_mem ha
        obtain ⟨j, hj, eb⟩ := List.getElem_of_mem hb
        rcases Nat.lt_trichotomy i j with q | q | q
        · have := (List.pairwise_iff_getElem.1 hord) i j hi hj q; rw [ea, eb] at this; omega
        · subst q; rw [← ea, ← eb]
        · have := (List.pairwise_iff_getElem.1 hord) j i hj hi q; rw [ea, eb] at this; omega
      subst hab
      have h1 := th_le ho hz a ((hmem a).1 ha) (hno a ha)
      have h2 := (fr_mul (dr := z.dr) (s := a.t) (t := t) (by omega) (dlL_ok ho hz a ha).1 ht).2.1
      unfold lowI highI
      omega
    · exact (key b hb a ha h).2
  have hok := dlL_ok ho hz
  have hlo : ∀ a ∈ dlL z ks, lowI z.dr a t ≤ 300 := fun a ha => by
    have h1 := hok a ha
    have h2 := (fr_mul (dr := z.dr) (s := a.t) (t := t) (by omega) h1.1 ht).2.1
    have := h1.2.1
    unfold lowI; omega
  have hhi : ∀ a ∈ dlL z ks, -300 ≤ highI z.dr a t := fun a ha => by
    have h1 := hok a ha
    have h2 := (fr_mul (dr := z.dr) (s := a.t) (t := t) (by omega) h1.1 ht).2.1
    have := h1.2.2
    unfold highI; omega
  unfold spLo spHi maxL minL
  refine fold_max_le (fold_min_le (by decide) ?_) ?_
  · intro y hy
    obtain ⟨b, hb, rfl⟩ := List.mem_map.1 hy
    exact hhi b hb
  · intro y hy
    obtain ⟨a, ha, rfl⟩ := List.mem_map.1 hy
    refine fold_min_le (hlo a ha) ?_
    intro y hy
    obtain ⟨b, hb, rfl⟩ := List.mem_map.1 hy
    exact hall a ha b hb
theorem sharp_core {dn up s l L H q r q2 r2 : Int} (hdn : 0 ≤ dn ∧ dn < 3600) (hup : up = dn ∨ up = dn + 1) (hs : 0 ≤ s ∧ s ≤ 3599) (hl : 1 ≤ l ∧ l ≤ 100) (hL : -300 ≤ L ∧ L ≤ 300) (hH : -300 ≤ H ∧ H ≤ 300) (hLH : L ≤ H) (hop : 2 * l + H - L ≤ 900)
    (h1 : dn - (s - l - H) = 3600 * q + r) (hr : 0 ≤ r ∧ r < 3600) (h2 : up - (s - l - H) = 3600 * q2 + r2) (hr2 : 0 ≤ r2 ∧ r2 < 3600) :
    (r ≤ 2 * l + H - L ∧ r2 ≤ 2 * l + H - L) ↔ ∃ n, (L ≤ n ∧ n ≤ H) ∧ ∃ k, (-1 ≤ k ∧ k ≤ 1) ∧ up + n - l ≤ s + k * 3600 ∧ s + k * 3600 ≤ dn + n + l := by
  constructor
  · rintro ⟨a, b⟩
    have hq : q2 = q := by omega
    subst hq
    have hk : -1 ≤ q2 ∧ q2 ≤ 1 := by omega
    by_cases hn : L ≤ s + q2 * 3600 - l - dn
    · exact ⟨s + q2 * 3600 - l - dn, ⟨hn, by omega⟩, q2, hk, by omega, by omega⟩
    · exact ⟨L, ⟨by omega, hLH⟩, q2, hk, by omega, by omega⟩
  · rintro ⟨n, hn, k, hk, a, b⟩
    have e1 : 3600 * (q - k) + r = dn - (s - l - H) - 3600 * k := by omega
    have b1 : 0 ≤ dn - (s - l - H) - 3600 * k := by omega
    have b2 : dn - (s - l - H) - 3600 * k ≤ 2 * l + H - L := by omega
    have e2 : q = k := by omega
    have e3 : 3600 * (q2 - k) + r2 = up - (s - l - H) - 3600 * k := by omega
    have b3 : 0 ≤ up - (s - l - H) - 3600 * k := by omega
    have b4 : up - (s - l - H) - 3600 * k ≤ 2 * l + H - L := by omega
    have e4 : q2 = k := by omega
    subst e2
    omega
/-- A bearing lies in a reading's wedge exactly if a zero between the bounds explains the reading, but for turns. -/
theorem sharp_iff {dn up s l L H : Int} (hdn : 0 ≤ dn ∧ dn < 3600) (hup : up = dn ∨ up = dn + 1) (hs : 0 ≤ s ∧ s ≤ 3599) (hl : 1 ≤ l ∧ l ≤ 100) (hL : -300 ≤ L ∧ L ≤ 300) (hH : -300 ≤ H ∧ H ≤ 300) (hLH : L ≤ H) (hop : 2 * l + H - L ≤ 900) :
    ((dn - (s - l - H) % 3600) % 3600 ≤ ((s + l - L) % 3600 - (s - l - H) % 3600) % 3600 ∧ (up - (s - l - H) % 3600) % 3600 ≤ ((s + l - L) % 3600 - (s - l - H) % 3600) % 3600) ↔ ∃ n, (L ≤ n ∧ n ≤ H) ∧ ∃ k, (-1 ≤ k ∧ k ≤ 1) ∧ up + n - l ≤ s + k * 3600 ∧ s + k * 3600 ≤ dn + n + l := by
  have e1 : ((s + l - L) % 3600 - (s - l - H) % 3600) % 3600 = 2 * l + H - L := by
    rw [← Int.sub_emod, show s + l - L - (s - l - H) = 2 * l + H - L by omega]
    exact Int.emod_eq_of_lt (by omega) (by omega)
  have e2 : ∀ x : Int, (x - (s - l - H) % 3600) % 3600 = (x - (s - l - H)) % 3600 := fun x => by
    rw [Int.sub_emod, Int.emod_emod, ← Int.sub_emod]
  rw [e1, e2, e2]
  have h1 := Int.mul_ediv_add_emod (dn - (s - l - H)) 3600
  have h2 := Int.mul_ediv_add_emod (up - (s - l - H)) 3600
  exact sharp_core hdn hup hs hl hL hH hLH hop h1.symm ⟨Int.emod_nonneg _ (by decide), Int.emod_lt_of_pos _ (by decide)⟩ h2.symm ⟨Int.emod_nonneg _ (by decide), Int.emod_lt_of_pos _ (by decide)⟩
/-- Where Zero answers, its bounds are no empty span. -/
theorem zr_le {cs : List Ci} {ks : List Ck} {id t : Int} (h : zrE cs ks id t = 0) : ∃ z, ciF cs id = some z ∧ CcOk cs ks ∧ zrL cs ks id t ≤ zrH cs ks id t := by
  unfold zrE at h
  split at h
  · rename_i hc
    have ho := ccE_ok hc
    cases hf : ciF cs id with
    | none => rw [hf] at h; simp [dtE] at h
    | some z =>
      rw [hf] at h
      simp only [dtE] at h
      split at h
      · rename_i ht
        split at h
        · exact absurd h (by decide)
        · rename_i hcb
          have ht2 := ci_iff.1 ht
          have hzo := Ci.ok_iff.1 (ciF_ok ho hf)
          have hcl : clL z.dr (dlL z ks) = [] := by
            unfold ctB at hcb
            simpa using hcb
          obtain ⟨e1, e2⟩ := zr_of (ks := ks) (t := t) hf
          refine ⟨z, rfl, ho, ?_⟩
          rw [e1, e2]
          exact sp_le ho hf (by omega) hcl
      · exact absurd h (by decide)
  · rename_i hc; exact absurd h hc
/-- A place lies in a reading's wedge exactly if a zero between the bounds explains the reading. -/
theorem sharp_ls {cs : List Ci} {ks : List Ck} {rc rt rs rl : Int} (h : rwE cs ks rc rt rs rl = 0) {z : Ci} (hz : ciF cs rc = some z) (a b : Int) :
    lsB (rwF cs ks rc rt rs rl) (rwT cs ks rc rt rs rl) z.x z.y a b = true ↔ brB z.x z.y a b = true ∧ ∃ n, (zrL cs ks rc rt ≤ n ∧ n ≤ zrH cs ks rc rt) ∧ ∃ k, (-1 ≤ k ∧ k ≤ 1) ∧ brUp z.x z.y a b + n - rl ≤ rs + k * 3600 ∧ rs + k * 3600 ≤ brDn z.x z.y a b + n + rl := by
  have hop : asE cs ks rc rt rs rl = 0 ∧ ¬ 900 < 2 * rl + asH cs ks rc rt rs rl - asL cs ks rc rt rs rl := by
    unfold rwE at h
    split at h
    · rename_i h1
      refine ⟨h1, fun hw => ?_⟩
      rw [if_pos hw] at h
      exact absurd h (by decide)
    · rename_i h1; exact absurd h h1
  obtain ⟨e1, e2, ⟨hs, hl⟩, hL, hH⟩ := as_of hop.1
  have hd := hop.1
  rw [as_df] at hd
  have hzE : zrE cs ks rc rt = 0 := by
    unfold dfE at hd
    unfold zrE
    split at hd
    · rename_i hc
      rw [if_pos hc]
      split at hd
      · exact hd
      · exact absurd hd (by decide)
    · rename_i hc; exact absurd hd hc
  obtain ⟨_, _, _, hLH⟩ := zr_le hzE
  have hF : rwF cs ks rc rt rs rl = (rs - rl - zrH cs ks rc rt) % 3600 := by unfold rwF; rw [if_pos h, e2]
  have hT : rwT cs ks rc rt rs rl = (rs + rl - zrL cs ks rc rt) % 3600 := by unfold rwT; rw [if_pos h, e1]
  rw [e1] at hL
  rw [e2] at hH
  have hop2 := hop.2
  rw [e1, e2] at hop2
  obtain ⟨L, hLe⟩ : ∃ q, zrL cs ks rc rt = q := ⟨_, rfl⟩
  obtain ⟨U, hUe⟩ : ∃ q, zrH cs ks rc rt = q := ⟨_, rfl⟩
  rw [hLe] at hL hLH hT hop2 ⊢
  rw [hUe] at hH hLH hF hop2 ⊢
  rw [hF, hT]
  cases hb : brB z.x z.y a b
  · unfold lsB; rw [hb]; simp
  · rw [ls_iff hb]
    obtain ⟨n1, n2, n3⟩ := br_nx hb
    have hsh := sharp_iff (dn := brDn z.x z.y a b) (up := brUp z.x z.y a b) (s := rs) (l := rl) (L := L) (H := U) ⟨n1, n2⟩ n3 hs hl hL hH hLH (by omega)
    have hopI : opI ((rs - rl - U) % 3600) ((rs + rl - L) % 3600) = ((rs + rl - L) % 3600 - (rs - rl - U) % 3600) % 3600 := by
      unfold opI
      rw [if_pos (by rw [Bool.and_eq_true, ci_iff, ci_iff]; omega)]
    have hv : vwB ((rs - rl - U) % 3600) ((rs + rl - L) % 3600) = true := by
      unfold vwB
      rw [ci_iff, hopI, ← Int.sub_emod, show rs + rl - L - (rs - rl - U) = 2 * rl + U - L by omega, Int.emod_eq_of_lt (by omega) (by omega)]
      omega
    rw [hopI, hsh]
    constructor
    · rintro ⟨_, h2⟩; exact ⟨rfl, h2⟩
    · rintro ⟨_, h2⟩; exact ⟨hv, h2⟩
end Go.Proofs.Ytebdboacmeafaaa
