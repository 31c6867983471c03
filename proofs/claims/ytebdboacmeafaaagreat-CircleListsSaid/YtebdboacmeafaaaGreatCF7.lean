/- Theory: the pairs that the reference finds are those of the dial, in its order; spans over things in any order. -/
import Derived.Test.YtebdboacmeafaaaGreatCF6
set_option linter.unusedVariables false
set_option linter.unusedSimpArgs false
namespace Go.Proofs.YtebdboacmeafaaaGreat
open Go Go.RowKit

theorem maxL_perm {l m : List Int} (h : l.Perm m) : ∀ a, l.foldl max a = m.foldl max a := by
  induction h with
  | nil => intro a; rfl
  | cons x _ ih => intro a; exact ih _
  | swap x y l => intro a; simp only [List.foldl_cons]; congr 1; omega
  | trans _ _ h1 h2 => intro a; rw [h1, h2]
theorem minL_perm {l m : List Int} (h : l.Perm m) : ∀ a, l.foldl min a = m.foldl min a := by
  induction h with
  | nil => intro a; rfl
  | cons x _ ih => intro a; exact ih _
  | swap x y l => intro a; simp only [List.foldl_cons]; congr 1; omega
  | trans _ _ h1 h2 => intro a; rw [h1, h2]
theorem sp_perm (dr t : Int) {l m : List Th} (h : l.Perm m) : spLo dr l t = spLo dr m t ∧ spHi dr l t = spHi dr m t :=
  ⟨maxL_perm (h.map _) _, minL_perm (h.map _) _⟩
def LtP (a b : Pi2) : Prop := ltP a b = true
theorem ltP_iff {a b : Pi2} : LtP a b ↔ a.1 < b.1 ∨ (a.1 = b.1 ∧ a.2 < b.2) := by
  unfold LtP ltP
  rw [Bool.or_eq_true, Bool.and_eq_true, decide_eq_true_eq, decide_eq_true_eq, beq_iff_eq]
theorem ltP_irr {a b : Pi2} (h : LtP a b) : a ≠ b := by
  rw [ltP_iff] at h
  rintro rfl
  omega
theorem ltP_asy {a b : Pi2} (h : LtP a b) (h2 : LtP b a) : False := by
  rw [ltP_iff] at h h2
  omega
theorem ltP_tot {a b : Pi2} (h : ltP a b = false) (hn : a ≠ b) : LtP b a := by
  have h1 : ¬ LtP a b := by unfold LtP; rw [h]; simp
  rw [ltP_iff] at h1 ⊢
  have : ¬ (a.1 = b.1 ∧ a.2 = b.2) := fun h => hn (Prod.ext h.1 h.2)
  omega
theorem ltP_trans {a b c : Pi2} (h : LtP a b) (h2 : LtP b c) : LtP a c := by
  rw [ltP_iff] at *
  omega
theorem ltP_ext : ∀ {l m : List Pi2}, l.Pairwise LtP → m.Pairwise LtP → (∀ p, p ∈ l ↔ p ∈ m) → l = m
  | [], [], _, _, _ => rfl
  | [], b :: m, _, _, h => by have := (h b).2 (List.mem_cons_self ..); simp at this
  | a :: l, [], _, _, h => by have := (h a).1 (List.mem_cons_self ..); simp at this
  | a :: l, b :: m, h1, h2, h => by
    obtain ⟨p1, p2⟩ := List.pairwise_cons.1 h1
    obtain ⟨q1, q2⟩ := List.pairwise_cons.1 h2
    have hab : a = b := by
      rcases List.mem_cons.1 ((h a).1 (List.mem_cons_self ..)) with e | e
      · exact e
      · rcases List.mem_cons.1 ((h b).2 (List.mem_cons_self ..)) with e2 | e2
        · exact e2.symm
        · exact (ltP_asy (q1 a e) (p1 b e2)).elim
    subst hab
    rw [ltP_ext p2 q2 (fun p => ⟨fun hp => ?_, fun hp => ?_⟩)]
    · rcases List.mem_cons.1 ((h p).1 (List.mem_cons_of_mem _ hp)) with e | e
      · exact absurd e.symm (ltP_irr (p1 p hp))
      · exact e
    · rcases List.mem_cons.1 ((h p).2 (List.mem_cons_of_mem _ hp)) with e | e
      · exact absurd e.symm (ltP_irr (q1 p hp))
      · exact e
theorem putP_cons (a : Pi2) (l : List Pi2) (p : Pi2) : putP (a :: l) p = if ltP a p = true then a :: putP l p else p :: a :: l := by
  unfold putP atP
  rw [List.takeWhile_cons]
  split
  · simp
  · simp
theorem putP_spec {p : Pi2} : ∀ {l : List Pi2}, l.Pairwise LtP → (∀ q ∈ l, q ≠ p) → (putP l p).Pairwise LtP ∧ ∀ q, q ∈ putP l p ↔ q = p ∨ q ∈ l
  | [], _, _ => ⟨by simp [putP, atP], fun q => by simp [putP, atP]⟩
  | a :: l, h, hn => by
    obtain ⟨h1, h2⟩ := List.pairwise_cons.1 h
    obtain ⟨i1, i2⟩ := putP_spec (l := l) h2 (fun q hq => hn q (List.mem_cons_of_mem _ hq))
    rw [putP_cons]
    cases hc : ltP a p
    · have hpa := ltP_tot hc (hn a (List.mem_cons_self ..))
      simp only [Bool.false_eq_true, if_false]
      refine ⟨List.pairwise_cons.2 ⟨fun q hq => ?_, h⟩, fun q => by simp [List.mem_cons]⟩
      rcases List.mem_cons.1 hq with rfl | hq
      · exact hpa
      · exact ltP_trans hpa (h1 q hq)
    · simp only [if_true]
      refine ⟨List.pairwise_cons.2 ⟨fun q hq => ?_, i1⟩, fun q => ?_⟩
      · rcases (i2 q).1 hq with rfl | hq
        · exact hc
        · exact h1 q hq
      · rw [List.mem_cons, i2, List.mem_cons]
        constructor
        · rintro (h | h | h)
          · exact .inr (.inl h)
          · exact .inl h
          · exact .inr (.inr h)
        · rintro (h | h | h)
          · exact .inr (.inl h)
          · exact .inl h
          · exact .inr (.inr h)
def idN (L : List Th) (i : Nat) : Int := (L.getD i .nil).id
theorem gRow_spec {dr : Int} {L : List Th} (hinj : ∀ i j, i < L.length → j < L.length → idN L i = idN L j → i = j) {i : Nat} (hi : i < L.length) {o : List Pi2} (ho : o.Pairwise LtP) (hm : ∀ p ∈ o, ∃ i', i' < i ∧ p.1 = idN L i') :
    ∀ k, k ≤ L.length → (gRow dr L i k o).Pairwise LtP ∧ ∀ p, p ∈ gRow dr L i k o ↔ p ∈ o ∨ ∃ k', k' < k ∧ gC dr L i k' = true ∧ p = (idN L i, idN L k')
  | 0, _ => ⟨ho, fun p => ⟨.inl, fun h => h.elim id (fun ⟨_, h, _⟩ => by omega)⟩⟩
  | k + 1, hk => by
    obtain ⟨h1, h2⟩ := gRow_spec hinj hi ho hm k (by omega)
    cases hc : gC dr L i k
    · have e : gRow dr L i (k + 1) o = gRow dr L i k o := by show (if gC dr L i k = true then _ else _) = _; rw [hc]; rfl
      rw [e]
      refine ⟨h1, fun p => ?_⟩
      rw [h2]
      constructor
      · rintro (h | ⟨k', a, b, c⟩)
        · exact .inl h
        · exact .inr ⟨k', by omega, b, c⟩
      · rintro (h | ⟨k', a, b, c⟩)
        · exact .inl h
        · refine .inr ⟨k', ?_, b, c⟩
          rcases Nat.lt_or_ge k' k with q | q
          · exact q
          · obtain rfl : k' = k := by omega
            rw [hc] at b; cases b
    · have e : gRow dr L i (k + 1) o = putP (gRow dr L i k o) (idN L i, idN L k) := by show (if gC dr L i k = true then _ else _) = _; rw [hc]; rfl
      rw [e]
      obtain ⟨j1, j2⟩ := putP_spec (p := (idN L i, idN L k)) h1 (fun q hq => by
        rintro rfl
        rcases (h2 _).1 hq with h | ⟨k', a, b, c⟩
        · obtain ⟨i', b1, b2⟩ := hm _ h
          have := hinj i i' hi (by omega) b2
          omega
        · have := hinj k k' (by omega) (by omega) (congrArg Prod.snd c)
          omega)
      refine ⟨j1, fun p => ?_⟩
      rw [j2, h2]
      constructor
      · rintro (h | h | ⟨k', a, b, c⟩)
        · exact .inr ⟨k, by omega, hc, h⟩
        · exact .inl h
        · exact .inr ⟨k', by omega, b, c⟩
      · rintro (h | ⟨k', a, b, c⟩)
        · exact .inr (.inl h)
        · rcases Nat.lt_or_ge k' k with q | q
          · exact .inr (.inr ⟨k', q, b, c⟩)
          · obtain rfl : k' = k := by omega
            exact .inl c
theorem gAll_spec {dr : Int} {L : List Th} (hinj : ∀ i j, i < L.length → j < L.length → idN L i = idN L j → i = j) :
    ∀ i, i ≤ L.length → (gAll dr L i).Pairwise LtP ∧ ∀ p, p ∈ gAll dr L i ↔ ∃ i' k', i' < i ∧ k' < L.length ∧ gC dr L i' k' = true ∧ p = (idN L i', idN L k')
  | 0, _ => ⟨List.Pairwise.nil, fun p => ⟨fun h => by simp [gAll] at h, fun ⟨_, _, h, _⟩ => by omega⟩⟩
  | i + 1, hi => by
    obtain ⟨h1, h2⟩ := gAll_spec hinj i (by omega)
    obtain ⟨j1, j2⟩ := gRow_spec (dr := dr) hinj (i := i) (by omega) h1 (fun p hp => by
      obtain ⟨i', k', a, _, _, e⟩ := (h2 p).1 hp
      exact ⟨i', a, congrArg Prod.fst e⟩) L.length (Nat.le_refl _)
    refine ⟨j1, fun p => ?_⟩
    show p ∈ gRow dr L i L.length (gAll dr L i) ↔ _
    rw [j2, h2]
    constructor
    · rintro (⟨i', k', a, b, c, d⟩ | ⟨k', a, b, c⟩)
      · exact ⟨i', k', by omega, b, c, d⟩
      · exact ⟨i, k', by omega, a, b, c⟩
    · rintro ⟨i', k', a, b, c, d⟩
      rcases Nat.lt_or_ge i' i with q | q
      · exact .inl ⟨i', k', q, b, c, d⟩
      · obtain rfl : i' = i := by omega
        exact .inr ⟨k', b, c, d⟩
theorem clL_spec (dr : Int) : ∀ {S : List Th}, S.Pairwise (fun s t => s.id < t.id) → (clL dr S).Pairwise LtP ∧ ∀ p, p ∈ clL dr S ↔ ∃ a ∈ S, (a.no = true ∧ p = (a.id, a.id)) ∨ ∃ b ∈ S, a.id < b.id ∧ clB dr a b = true ∧ p = (a.id, b.id)
  | [], _ => ⟨List.Pairwise.nil, fun p => by simp [clL]⟩
  | a :: l, h => by
    obtain ⟨h1, h2⟩ := List.pairwise_cons.1 h
    obtain ⟨i1, i2⟩ := clL_spec dr (S := l) h2
    have hfst : ∀ p ∈ clL dr l, a.id < p.1 := fun p hp => by
      obtain ⟨c, hc, ⟨_, rfl⟩ | ⟨b, _, _, _, rfl⟩⟩ := (i2 p).1 hp
      · exact h1 c hc
      · exact h1 c hc
    have hmid : (((l.filter fun b => clB dr a b).map fun b => (a.id, b.id))).Pairwise LtP := by
      rw [List.pairwise_map]
      refine List.Pairwise.imp (R := fun s t : Th => s.id < t.id) (S := fun x y : Th => LtP (a.id, x.id) (a.id, y.id)) ?_ (h2.filter _)
      intro x y hxy
      exact ltP_iff.2 (.inr ⟨rfl, hxy⟩)
    have hmm : ∀ p, p ∈ ((l.filter fun b => clB dr a b).map fun b => (a.id, b.id)) ↔ ∃ b ∈ l, clB dr a b = true ∧ p = (a.id, b.id) := fun p => by
      rw [List.mem_map]
      constructor
      · rintro ⟨b, hb, rfl⟩
        obtain ⟨q1, q2⟩ := List.mem_filter.1 hb
        exact ⟨b, q1, q2, rfl⟩
      · rintro ⟨b, q1, q2, rfl⟩
        exact ⟨b, List.mem_filter.2 ⟨q1, q2⟩, rfl⟩
    have hself : ∀ p, p ∈ (if a.no = true then [(a.id, a.id)] else []) ↔ a.no = true ∧ p = (a.id, a.id) := fun p => by
      split
      · rename_i q; simp [q]
      · rename_i q; simp [q]
    show ((_ ++ _) ++ _ : List Pi2).Pairwise LtP ∧ ∀ p, p ∈ ((_ ++ _) ++ _ : List Pi2) ↔ _
    refine ⟨?_, fun p => ?_⟩
    · rw [List.pairwise_append, List.pairwise_append]
      refine ⟨⟨?_, hmid, fun p hp q hq => ?_⟩, i1, fun p hp q hq => ?_⟩
      · split
        · exact List.pairwise_singleton _ _
        · exact List.Pairwise.nil
      · obtain ⟨_, rfl⟩ := (hself p).1 hp
        obtain ⟨b, hb, _, rfl⟩ := (hmm q).1 hq
        exact ltP_iff.2 (.inr ⟨rfl, h1 b hb⟩)
      · have hq2 := hfst q hq
        have hp1 : p.1 = a.id := by
          rcases List.mem_append.1 hp with hp | hp
          · obtain ⟨_, rfl⟩ := (hself p).1 hp; rfl
          · obtain ⟨b, _, _, rfl⟩ := (hmm p).1 hp; rfl
        exact ltP_iff.2 (.inl (by omega))
    · rw [List.mem_append, List.mem_append, hself, hmm, i2]
      constructor
      · rintro ((⟨q1, q2⟩ | ⟨b, q1, q2, q3⟩) | ⟨c, hc, hr⟩)
        · exact ⟨a, List.mem_cons_self .., .inl ⟨q1, q2⟩⟩
        · exact ⟨a, List.mem_cons_self .., .inr ⟨b, List.mem_cons_of_mem _ q1, h1 b q1, q2, q3⟩⟩
        · refine ⟨c, List.mem_cons_of_mem _ hc, ?_⟩
          rcases hr with hr | ⟨b, hb, hr⟩
          · exact .inl hr
          · exact .inr ⟨b, List.mem_cons_of_mem _ hb, hr⟩
      · rintro ⟨c, hc, hr⟩
        rcases List.mem_cons.1 hc with rfl | hcl
        · rcases hr with hr | ⟨b, hb, q1, q2, q3⟩
          · exact .inl (.inl hr)
          · rcases List.mem_cons.1 hb with rfl | hb
            · omega
            · exact .inl (.inr ⟨b, hb, q2, q3⟩)
        · refine .inr ⟨c, hcl, ?_⟩
          rcases hr with hr | ⟨b, hb, q1, q2, q3⟩
          · exact .inl hr
          · rcases List.mem_cons.1 hb with rfl | hb
            · have := h1 c hcl; omega
            · exact .inr ⟨b, hb, q1, q2, q3⟩
theorem cl_ag (dr : Int) (a b : Th) : clB dr a b = (!a.no && !b.no && agB dr a b) := by
  unfold clB agB
  have e1 : decide (frI dr a.t b.t < a.lo - b.hi) = decide (b.hi + frI dr a.t b.t < a.lo) := decide_eq_decide.2 (by omega)
  have e2 : decide (frI dr a.t b.t < b.lo - a.hi) = decide (a.hi + frI dr a.t b.t < b.lo) := decide_eq_decide.2 (by omega)
  rw [e1, e2]
theorem gAll_eq {cs : List Ci} {ks : List Ck} (ho : CcOk cs ks) (z : Ci) : gAll z.dr (thL z ks) (thL z ks).length = clL z.dr (dlL z ks) := by
  have hids := thL_ids ho z
  have hinj : ∀ i j, i < (thL z ks).length → j < (thL z ks).length → idN (thL z ks) i = idN (thL z ks) j → i = j := fun i j hi hj h => by
    unfold idN at h
    rw [List.getD_eq_getElem?_getD, List.getD_eq_getElem?_getD, List.getElem?_eq_getElem hi, List.getElem?_eq_getElem hj] at h
    have hp := hids
    rw [List.Nodup, List.pairwise_map, List.pairwise_iff_getElem] at hp
    rcases Nat.lt_trichotomy i j with q | q | q
    · exact absurd h (hp i j hi hj q)
    · exact q
    · exact absurd h.symm (hp j i hj hi q)
  have hord : (dlL z ks).Pairwise fun s t => s.id < t.id := by
    have h1 := srtH_ord (thL z ks)
    have h2 : ((srtH (thL z ks)).map Th.id).Nodup := ((srtH_perm (thL z ks)).map Th.id).nodup_iff.2 hids
    rw [List.Nodup, List.pairwise_map] at h2
    exact (h1.and h2).imp (fun {a b} h => by have := h.1; have := h.2; omega)
  obtain ⟨g1, g2⟩ := gAll_spec (dr := z.dr) hinj _ (Nat.le_refl _)
  obtain ⟨c1, c2⟩ := clL_spec z.dr hord
  refine ltP_ext g1 c1 fun p => ?_
  rw [g2, c2]
  have hmem : ∀ x, x ∈ dlL z ks ↔ x ∈ thL z ks := fun x => (srtH_perm (thL z ks)).mem_iff
  have hget : ∀ i, i < (thL z ks).length → (thL z ks).getD i .nil ∈ thL z ks := fun i hi => by
    rw [List.getD_eq_getElem?_getD, List.getElem?_eq_getElem hi]; exact List.getElem_mem _
  constructor
  · rintro ⟨i, k, hi, hk, hc, rfl⟩
    unfold gC at hc
    rw [Bool.or_eq_true, Bool.and_eq_true, beq_iff_eq, Bool.and_eq_true, Bool.and_eq_true, Bool.and_eq_true, decide_eq_true_eq] at hc
    refine ⟨_, (hmem _).2 (hget i hi), ?_⟩
    rcases hc with ⟨rfl, hn⟩ | ⟨⟨⟨q1, q2⟩, q3⟩, q4⟩
    · exact .inl ⟨hn, rfl⟩
    · exact .inr ⟨_, (hmem _).2 (hget k hk), q1, by rw [cl_ag, q2, q3, q4]; rfl, rfl⟩
  · rintro ⟨a, ha, hr⟩
    obtain ⟨i, hi, ea⟩ := List.getElem_of_mem ((hmem a).1 ha)
    have eai : (thL z ks).getD i .nil = a := by rw [List.getD_eq_getElem?_getD, List.getElem?_eq_getElem hi]; exact ea
    rcases hr with ⟨hn, rfl⟩ | ⟨b, hb, q1, q2, rfl⟩
    · refine ⟨i, i, hi, hi, ?_, by unfold idN; rw [eai]⟩
      unfold gC; rw [eai, hn]; simp
    · obtain ⟨k, hk, eb⟩ := List.getElem_of_mem ((hmem b).1 hb)
      have ebk : (thL z ks).getD k .nil = b := by rw [List.getD_eq_getElem?_getD, List.getElem?_eq_getElem hk]; exact eb
      refine ⟨i, k, hi, hk, ?_, by unfold idN; rw [eai, ebk]⟩
      rw [cl_ag] at q2
      unfold gC; rw [eai, ebk, decide_eq_true q1, Bool.true_and, q2]; simp
/-- The reference's zeros are those of the dial. -/
theorem zr_eq {cs : List Ci} {ks : List Ck} (id t : Int) : zrV cs ks id t = .tuple #[.agg #[.int .i64 (yrL cs ks id t), .int .i64 (yrH cs ks id t)], .int .i64 (yrE cs ks id t)] := by
  have hE : zrE cs ks id t = yrE cs ks id t := by
    unfold zrE yrE usE dtE
    by_cases h : ccE cs ks = 0
    · rw [if_pos h, if_pos h]
      cases hf : ciF cs id with
      | none => rfl
      | some z =>
        simp only [Option.getD_some]
        have hg := gAll_eq (ccE_ok h) z
        have hn : ¬ t < t := by omega
        simp only [hg, decide_eq_false hn]
        by_cases hc : z.f ≤ t ∧ t ≤ z.t
        · have h2 : ¬ t < z.f := by omega
          have h3 : ¬ z.t < t := by omega
          rw [ci_iff.2 hc, decide_eq_false h2, decide_eq_false h3]
          simp only [Bool.false_or, Bool.false_eq_true, if_false, if_true]
          unfold ctB
          cases (clL z.dr (dlL z ks)).isEmpty <;> rfl
        · have h2 : ciB t z.f z.t = false := Bool.eq_false_iff.2 (fun q => hc (ci_iff.1 q))
          have h4 : (false || decide (t < z.f) || decide (z.t < t)) = true := by
            rw [Bool.false_or, Bool.or_eq_true, decide_eq_true_eq, decide_eq_true_eq]; omega
          rw [h2, if_pos h4]
          rfl
    · rw [if_neg h, if_neg h, if_neg h]
  have hL : zrL cs ks id t = spLo ((ciF cs id).getD .nil).dr (thL ((ciF cs id).getD .nil) ks) t := (sp_perm _ _ (srtH_perm _)).1
  have hH : zrH cs ks id t = spHi ((ciF cs id).getD .nil).dr (thL ((ciF cs id).getD .nil) ks) t := (sp_perm _ _ (srtH_perm _)).2
  unfold zrV yrL yrH
  rw [hE, hL, hH]
  by_cases h : yrE cs ks id t = 0
  · rw [if_pos h, if_pos h, if_pos h, h]
  · rw [if_neg h, if_neg h, if_neg h]
end Go.Proofs.YtebdboacmeafaaaGreat
