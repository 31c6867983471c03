/- Theory: what the reference says a zero rests on is what the dial says. And the law CircleZeros. -/
import Derived.Test.YtebdboacmeafaaaCF8
import Derived.Test.YtebdboacmeafaaaCF1
set_option linter.unusedVariables false
set_option linter.unusedSimpArgs false
namespace Go.Proofs.Ytebdboacmeafaaa
open Go Go.RowKit

def rNok (A : Th → Int) (b : Int) (L : List Th) (o : Int) : Prop := (o = -1 ∧ ∀ h ∈ L, A h ≠ b) ∨ ∃ h ∈ L, A h = b ∧ o = h.id ∧ ∀ h' ∈ L, A h' = b → o ≤ h'.id
theorem rNl_ok {A : Th → Int} {b : Int} {L : List Th} (hp : ∀ h ∈ L, 0 ≤ h.id) : ∀ k, k ≤ L.length → rNok A b (L.take k) (rNl A b (-1) (L.take k))
  | 0, _ => .inl ⟨rfl, by simp⟩
  | k + 1, hk => by
    have hkl : k < L.length := by omega
    have ih := rNl_ok (A := A) (b := b) hp k (by omega)
    rw [rN_step hkl]
    obtain ⟨x, hx⟩ : ∃ x, L.getD k .nil = x := ⟨_, rfl⟩
    have hxe : L[k] = x := by rw [← hx, List.getD_eq_getElem?_getD, List.getElem?_eq_getElem hkl]; rfl
    have hxm : x ∈ L := hxe ▸ List.getElem_mem _
    have hx0 := hp x hxm
    rw [hx, List.take_succ_eq_append_getElem hkl, hxe]
    obtain ⟨o, ho⟩ : ∃ o, rNl A b (-1) (L.take k) = o := ⟨_, rfl⟩
    rw [ho] at ih ⊢
    unfold rNf
    by_cases hb : A x = b
    · rcases ih with ⟨rfl, hn⟩ | ⟨h, hm, he, hoe, hl⟩
      · have hc : (A x == b && (decide ((-1 : Int) < 0) || decide (x.id < -1))) = true := by rw [hb]; simp
        rw [if_pos hc]
        refine .inr ⟨x, by simp, hb, rfl, fun h' hm' he' => ?_⟩
        rcases List.mem_append.1 hm' with h1 | h1
        · exact absurd he' (hn h' h1)
        · have := List.mem_singleton.1 h1; subst this; exact Int.le_refl _
      · have hh0 := hp h (List.mem_of_mem_take hm)
        by_cases hlt : x.id < o
        · have hc : (A x == b && (decide (o < 0) || decide (x.id < o))) = true := by rw [hb, decide_eq_true hlt]; simp
          rw [if_pos hc]
          refine .inr ⟨x, by simp, hb, rfl, fun h' hm' he' => ?_⟩
          rcases List.mem_append.1 hm' with h1 | h1
          · have := hl h' h1 he'; omega
          · have := List.mem_singleton.1 h1; subst this; exact Int.le_refl _
        · have hc : ¬ (A x == b && (decide (o < 0) || decide (x.id < o))) = true := by
            rw [decide_eq_false hlt, decide_eq_false (by omega : ¬ o < 0)]; simp
          rw [if_neg hc]
          refine .inr ⟨h, List.mem_append_left _ hm, he, hoe, fun h' hm' he' => ?_⟩
          rcases List.mem_append.1 hm' with h1 | h1
          · exact hl h' h1 he'
          · have := List.mem_singleton.1 h1; subst this; omega
    · have hc : ¬ (A x == b && (decide (o < 0) || decide (x.id < o))) = true := by
        rw [beq_eq_false_iff_ne.2 hb]; simp
      rw [if_neg hc]
      rcases ih with ⟨rfl, hn⟩ | ⟨h, hm, he, hoe, hl⟩
      · refine .inl ⟨rfl, fun h' hm' => ?_⟩
        rcases List.mem_append.1 hm' with h1 | h1
        · exact hn h' h1
        · have := List.mem_singleton.1 h1; subst this; exact hb
      · refine .inr ⟨h, List.mem_append_left _ hm, he, hoe, fun h' hm' he' => ?_⟩
        rcases List.mem_append.1 hm' with h1 | h1
        · exact hl h' h1 he'
        · have := List.mem_singleton.1 h1; subst this; exact absurd he' hb
theorem rNl_0 {A : Th → Int} {b : Int} {L : List Th} (hp : ∀ h ∈ L, 0 ≤ h.id) : ∀ k, k ≤ L.length → rNl A b 0 (L.take k) = 0
  | 0, _ => rfl
  | k + 1, hk => by
    have hkl : k < L.length := by omega
    rw [rN_step hkl, rNl_0 hp k (by omega)]
    have hxm : L.getD k .nil ∈ L := by rw [List.getD_eq_getElem?_getD, List.getElem?_eq_getElem hkl]; exact List.getElem_mem _
    have := hp _ hxm
    unfold rNf
    rw [decide_eq_false (by omega : ¬ (L.getD k .nil).id < 0)]
    simp
theorem rsI_same {A : Th → Int} {b last : Int} (h : b = last) : ∀ S : List Th, rsI A b last S = 0
  | [] => rfl
  | x :: S => by
    unfold rsI
    rw [if_neg (by rw [h]; simp), rsI_same h S]
theorem rsI_ok {A : Th → Int} {b last : Int} (hb : b ≠ last) : ∀ {S : List Th}, S.Pairwise (fun s t => s.id ≤ t.id) → ((∀ h ∈ S, A h ≠ b) ∧ rsI A b last S = 0) ∨ ∃ h ∈ S, A h = b ∧ rsI A b last S = h.id ∧ ∀ h' ∈ S, A h' = b → h.id ≤ h'.id
  | [], _ => .inl ⟨by simp, rfl⟩
  | x :: S, h => by
    obtain ⟨h1, h2⟩ := List.pairwise_cons.1 h
    have hne : (b != last) = true := by simpa using hb
    by_cases hx : A x = b
    · refine .inr ⟨x, by simp, hx, ?_, fun h' hm' _ => ?_⟩
      · unfold rsI; rw [if_pos (by rw [hne, hx]; simp)]
      · rcases List.mem_cons.1 hm' with rfl | hm'
        · exact Int.le_refl _
        · exact h1 _ hm'
    · have hr : rsI A b last (x :: S) = rsI A b last S := by
        show (if _ then _ else _) = _
        rw [if_neg (by rw [beq_eq_false_iff_ne.2 hx]; simp)]
      rw [hr]
      rcases rsI_ok (A := A) hb h2 with ⟨q1, q2⟩ | ⟨g, q1, q2, q3, q4⟩
      · refine .inl ⟨fun h' hm' => ?_, q2⟩
        rcases List.mem_cons.1 hm' with rfl | hm'
        · exact hx
        · exact q1 _ hm'
      · refine .inr ⟨g, List.mem_cons_of_mem _ q1, q2, q3, fun h' hm' he => ?_⟩
        rcases List.mem_cons.1 hm' with rfl | hm'
        · exact absurd he hx
        · exact q4 _ hm' he
theorem rest_eq {A : Th → Int} {b last : Int} {L : List Th} (hp : ∀ h ∈ L, 0 ≤ h.id) : max 0 (rNl A b (stI b last) L) = rsI A b last (srtH L) := by
  by_cases hb : b = last
  · have hs : stI b last = 0 := by unfold stI; rw [hb]; simp
    have h0 := rNl_0 (A := A) (b := b) hp L.length (Nat.le_refl _)
    rw [List.take_length] at h0
    rw [hs, h0, rsI_same hb]; rfl
  · have hs : stI b last = -1 := by unfold stI; rw [beq_eq_false_iff_ne.2 hb]; rfl
    have h0 := rNl_ok (A := A) (b := b) hp L.length (Nat.le_refl _)
    rw [List.take_length] at h0
    rw [hs]
    have hm : ∀ x, x ∈ srtH L ↔ x ∈ L := fun x => (srtH_perm L).mem_iff
    rcases h0 with ⟨h1, h2⟩ | ⟨h, h1, h2, h3, h4⟩
    · rcases rsI_ok (A := A) hb (srtH_ord L) with ⟨_, q2⟩ | ⟨g, q1, q2, _, _⟩
      · rw [h1, q2]; rfl
      · exact absurd q2 (h2 g ((hm g).1 q1))
    · rcases rsI_ok (A := A) hb (srtH_ord L) with ⟨q1, _⟩ | ⟨g, q1, q2, q3, q4⟩
      · exact absurd h2 (q1 h ((hm h).2 h1))
      · have e1 := h4 g ((hm g).1 q1) q2
        have e2 := q4 h ((hm h).2 h1) h2
        have e3 := hp h h1
        rw [q3]
        omega
theorem thL_pos {cs : List Ci} {ks : List Ck} (ho : CcOk cs ks) (z : Ci) : ∀ h ∈ thL z ks, 0 ≤ h.id := by
  intro h hm
  unfold thL at hm
  rcases List.mem_cons.1 hm with rfl | hm
  · exact Int.le_refl 0
  · obtain ⟨k, hk, rfl⟩ := List.mem_map.1 hm
    obtain ⟨j, hj, hjk⟩ := List.getElem_of_mem ((List.mem_filter.1 hk).1)
    obtain ⟨⟨y, hy⟩, _⟩ := ho.ck j hj
    have e1 : ks.getD j .nil = k := by rw [List.getD_eq_getElem?_getD, List.getElem?_eq_getElem hj]; exact hjk
    rw [e1] at hy
    have := hy.id
    show 0 ≤ k.id
    omega
/-- What a zero rests on: the reference and the dial agree. -/
theorem rs_eq {cs : List Ci} {ks : List Ck} (id t : Int) : rsV cs ks id t = .tuple #[.int .i64 (rtL cs ks id t), .int .i64 (rtH cs ks id t), .int .i64 (yrE cs ks id t)] := by
  have hz := zr_eq (cs := cs) (ks := ks) id t
  unfold zrV at hz
  have hE : zrE cs ks id t = yrE cs ks id t := by
    by_cases h : zrE cs ks id t = 0
    · rw [if_pos h] at hz; injection hz with h1; injection h1 with h1; injection h1 with _ h1; injection h1 with h1; injection h1 with _ h1; omega
    · rw [if_neg h] at hz; injection hz with h1; injection h1 with h1; injection h1 with _ h1; injection h1 with h1; injection h1 with _ h1
  unfold rsV rtL rtH
  by_cases h : yrE cs ks id t = 0
  · have h2 : zrE cs ks id t = 0 := by rw [hE, h]
    rw [if_pos h2] at hz
    have hl : zrL cs ks id t = yrL cs ks id t := by
      injection hz with h1; injection h1 with h1; injection h1 with h1; injection h1 with h1; injection h1 with h1; injection h1 with h1; injection h1
    have hh : zrH cs ks id t = yrH cs ks id t := by
      injection hz with h1; injection h1 with h1; injection h1 with h1; injection h1 with h1; injection h1 with h1; injection h1 with _ h1; injection h1 with h1; injection h1
    obtain ⟨z, hcz, hco, _, _⟩ := yr_ok h
    rw [if_pos h2, if_pos h, if_pos h, h]
    unfold rsLo rsHi
    rw [hl, hh]
    unfold dlL
    rw [rest_eq (thL_pos hco _), rest_eq (thL_pos hco _)]
  · have h2 : ¬ zrE cs ks id t = 0 := by rw [hE]; exact h
    rw [if_neg h2, if_neg h, if_neg h, hE]
end Go.Proofs.Ytebdboacmeafaaa
