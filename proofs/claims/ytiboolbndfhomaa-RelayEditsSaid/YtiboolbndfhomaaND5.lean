/- The walk of RelayProves. -/
import Derived.Test.YtiboolbndfhomaaND4
set_option linter.unusedVariables false
set_option linter.unusedSimpArgs false
namespace Go.Proofs.Ytiboolbndfhomaa
open Go.RowKit

theorem ends_nat {st : Int} {ls : List Lk} (h : ∀ k ∈ ls, endsB st k = true ∧ linkE k = 0) : EndsNat ls := fun i hi => by
  have := endsB_ok (h _ (lk_mem hi)).1
  unfold frN toN lkA
  omega
theorem ends_okN {s : Nat} {ls : List Lk} (h : ∀ k ∈ ls, endsB (s : Int) k = true ∧ linkE k = 0) : EndsOk s ls := fun i hi => by
  have := endsB_ok (h _ (lk_mem hi)).1
  unfold frN toN lkA
  omega
theorem filter_le {p q : Nat → Bool} : ∀ (L : List Nat), (∀ x ∈ L, p x = true → q x = true) → (L.filter p).length ≤ (L.filter q).length
  | [], _ => Nat.le_refl _
  | x :: L, h => by
    have ih := filter_le L (fun y hy => h y (List.mem_cons_of_mem _ hy))
    have hx := h x List.mem_cons_self
    rw [List.filter_cons, List.filter_cons]
    cases hp : p x
    · cases hq : q x
      · simpa [hp, hq] using ih
      · simp [hp, hq]; omega
    · rw [hx hp]; simpa [hp] using ih
theorem filter_lt {p q : Nat → Bool} : ∀ (L : List Nat), (∀ x ∈ L, p x = true → q x = true) → (∃ y ∈ L, q y = true ∧ p y = false) → (L.filter p).length < (L.filter q).length
  | [], _, ⟨y, hy, _⟩ => by simp at hy
  | x :: L, h, ⟨y, hy, hq', hp'⟩ => by
    have hx := h x List.mem_cons_self
    have hL := fun z hz => h z (List.mem_cons_of_mem x hz)
    rw [List.filter_cons, List.filter_cons]
    rcases List.mem_cons.1 hy with rfl | hy
    · have := filter_le L hL
      simp [hq', hp']; omega
    · have ih := filter_lt L hL ⟨y, hy, hq', hp'⟩
      cases hp : p x
      · cases hq : q x
        · simpa [hp, hq] using ih
        · simp [hp, hq]; omega
      · rw [hx hp]; simpa [hp] using ih
/-- How many stations are reached earlier. -/
def rankN (st : Nat) (at' : List Int) (s : Nat) : Nat := ((List.range st).filter fun x => decide (at0 at' x < at0 at' s)).length
/-- A way back visits each station at most once. -/
theorem Trail.len {st : Nat} {ls : List Lk} {a : Nat} {t : Int} {at' : List Int} {by' : List Sp} (hI : Inv st ls a t at' by') (he : EndsOk st ls) {s : Nat} {l : List Sp} (h : Trail ls by' a s l) : 0 ≤ at0 at' s → l.length ≤ rankN st at' s := by
  induction h with
  | nil => intro _; exact Nat.zero_le _
  | @snoc l i hi hb hne hT ih =>
    intro h0
    obtain ⟨e1, e2, e3⟩ := he i hi
    obtain ⟨k, x, k1, k2, k3, k4, k5, k6, k7⟩ := hI.hop _ e2 hne h0
    obtain rfl : k = i := by rw [hb] at k2; omega
    have hbd := leaveO_bd k6
    have hlt : at0 at' (frN ls k) < at0 at' (toN ls k) := by omega
    have h1 := ih k4
    have h2 : rankN st at' (frN ls k) < rankN st at' (toN ls k) := by
      unfold rankN
      refine filter_lt _ (fun x _ hx => ?_) ⟨frN ls k, List.mem_range.2 e1, decide_eq_true hlt, decide_eq_false (Int.lt_irrefl _)⟩
      have := of_decide_eq_true hx
      exact decide_eq_true (by omega)
    simp only [List.length_append, List.length_cons, List.length_nil]; omega
theorem rank_le (st : Nat) (at' : List Int) (s : Nat) : rankN st at' s ≤ st := by
  unfold rankN
  have := List.length_filter_le (fun x => decide (at0 at' x < at0 at' s)) (List.range st)
  simpa using this
/-- What Way returns, with what CheckWay says of it. -/
theorem way_out {s m g : Nat} {ls : List Lk} {t : Int} {w w' : World} {e : Ending} {at' : List Int} {by' : List Sp} (hw : wayE s ls m g t = 0) (hks : ∀ k ∈ ls, endsB (s : Int) k = true ∧ linkE k = 0) (hI : Inv s ls m t at' by') (hS : Shut ls at') (h40 : ls.length ≤ 40) (h10 : s ≤ 10) (hg : g < s)
    (h : WayOut s ls m g t w e w') : ∃ (v : Value) (q : Int) (lw : List Sp) (c1 c2 : Int), e = .returned (.tuple #[v, .int .i64 q]) ∧ Below w.heap.size w w' ∧ SpRow w' v lw ∧ wayR s ls m g t lw = (c1, c2) ∧
      ((at0 at' g < 0 ∧ q = 5) ∨ (0 ≤ at0 at' g ∧ q = 0 ∧ c2 = 0 ∧ c1 = at0 at' g)) := by
  obtain ⟨v, q, rfl, hb, _, h⟩ := h
  obtain ⟨x, u, hI2, hS2, h⟩ := h hw
  simp only [Int.toNat_natCast] at hI2 h
  obtain rfl := Inv.unique hI2 hI hS2 hS
  rcases h with ⟨h0, rfl, rfl⟩ | ⟨h0, rfl, l, h1, h2⟩
  · exact ⟨_, _, [], _, _, rfl, hb, SpRow.nil _, rfl, .inl ⟨h0, rfl⟩⟩
  · refine ⟨_, _, l, at0 x g, 0, rfl, hb, h1, ?_, .inr ⟨h0, rfl, rfl, rfl⟩⟩
    have hgo := Trail.go hI2 hS2 (ends_okN hks) (ends_nat hks) h2 h0
    have hlen := Trail.len hI2 (ends_okN hks) h2 h0
    have hrk := rank_le s x g
    unfold wayR
    rw [if_pos hw, if_neg (by omega), hgo]
    simp

theorem way_accept {s m g : Nat} {ls : List Lk} {t : Int} {l : List Sp} {mm : Int} (hw : wayE s ls m g t = 0) (hn : EndsNat ls) (h : wayR s ls m g t l = (mm, 0)) : ∃ m', m' ≤ mm ∧ Walk ls m t g m' := by
  unfold wayR at h
  rw [if_pos hw] at h
  split at h
  · cases h
  · split at h
    · rename_i x n hg
      split at h
      · rename_i hx
        cases h
        subst hx
        obtain ⟨b, hb, m', h1, h2⟩ := goL_walk hn l m t _ _ ⟨t, Int.le_refl _, .start⟩ hg
        obtain rfl : b = g := by omega
        exact ⟨m', h1, h2⟩
      · cases h
    · cases h
/-- What is compared, of a way and of numbers. -/
theorem proves_facts {s m g : Nat} {ls : List Lk} {t : Int} {at' : List Int} {by' : List Sp} {l : List Sp} {bs : List Int} {mm h : Int} (hw : wayE s ls m g t = 0) (hn : EndsNat ls) (hI : Inv s ls m t at' by') (hS : Shut ls at') (hr : wayR s ls m g t l = (mm, h)) :
    (h = 0 → 0 ≤ at0 at' g ∧ at0 at' g ≤ mm) ∧ (boundsE s ls m t bs = 0 → bs.length = s ∧ (h = 0 → 0 ≤ at0 bs g ∧ at0 bs g ≤ mm) ∧ ∀ k, k < s → 0 ≤ at0 at' k → 0 ≤ at0 bs k ∧ at0 bs k ≤ at0 at' k) := by
  obtain ⟨hs, _⟩ := wayE_ok hw
  refine ⟨fun h0 => ?_, fun hB => ⟨?_, fun h0 => ?_, fun k hk h0 => ?_⟩⟩
  · subst h0
    obtain ⟨m', h1, h2⟩ := way_accept hw hn hr
    have := hS.le hI.fr h2
    omega
  · unfold boundsE at hB
    rw [if_pos hs] at hB
    split at hB
    · rename_i h1
      simp only [Bool.and_eq_true, decide_eq_true_eq] at h1
      have := h1.1.1.1.1
      omega
    · cases hB
  · subst h0
    obtain ⟨m', h1, h2⟩ := way_accept hw hn hr
    have := bounds_le hn hs hB h2
    omega
  · exact bounds_le hn hs hB (hI.wk k hk h0)

set_option maxRecDepth 100000 in
set_option maxHeartbeats 8000000 in
theorem proves_law (st : Int) (o : Value) (ls : List Lk) (a b t : Int) (vl : Value) (l : List Sp) (vb : Value) (bs : List Int) (W : World) (hv : NRow W o ls) (hst : -9223372036854775808 ≤ st ∧ st ≤ 9223372036854775807) (ha : -9223372036854775808 ≤ a ∧ a ≤ 9223372036854775807) (hb : -9223372036854775808 ≤ b ∧ b ≤ 9223372036854775807) (ht : -9223372036854775808 ≤ t ∧ t ≤ 9223372036854775807)
    (hs : SpRow W vl l) (hl : l.length ≤ 9223372036854775807) (hs5 : INRow W vb bs) (hl5 : bs.length ≤ 9223372036854775807) :
    Calls Try.prog 7 #[ntV st o, .int .i64 a, .int .i64 b, .int .i64 t, vl, vb] W fun e w' => e = .returned (.bool true) ∧ Below W.heap.size W w' := by
  obtain ⟨oa, oc, rfl, _⟩ := hv.row.form
  obtain ⟨la, lc, rfl, _⟩ := hs.form
  obtain ⟨ba, bc, rfl, _⟩ := hs5.form
  have HV := Lib.hid hv
  have HL := Lib.hid hs
  have HBS := Lib.hid hs5
  have HC1 := Lib.hid (fun w' (h : Below W.heap.size W w') => few_any st (.slice oa ls.length oc) ls w' (hv.keep h))
  have HC2 := Lib.hid (fun w' (h : Below W.heap.size W w') => Earliest_any st (.slice oa ls.length oc) ls a t w' (hv.keep h))
  unfold ntV at HC1 HC2 ⊢
  have HA := Lib.hid (fun W' => net_cells W st (.slice oa ls.length oc) (W := W'))
  have HB0 := Lib.hid ((Below.refl _ W).alloc (Nat.le_refl W.heap.size) (.cells #[.int .i64 st, .slice oa ls.length oc] 24))
  obtain ⟨W1, hW1⟩ : ∃ W1, W.alloc (.cells #[.int .i64 st, .slice oa ls.length oc] 24) = W1 := ⟨_, rfl⟩
  rw [hW1] at HA HB0
  have HW1 := Lib.hid hW1
  clear hv hs hs5 hW1
  cases hf : fewB ls
  · rw [hf] at HC1
    clear hf
    go_enter Try.func7, Try.ntmps7
    go_wp2_with fail
    rw [HW1.out]
    refine (HC1.out _ HB0.out).mono ?_
    rintro e w3 ⟨rfl, hb3⟩
    have HB3 := Lib.hid (HB0.out.trans (hb3.mono HB0.out.size))
    clear hb3
    go_wp2_with fail
    refine (nets_any _).mono ?_
    rintro e wN ⟨rfl, hb⟩
    have HN := Lib.hid (HB3.out.trans (hb.mono HB3.out.size))
    clear hb
    go_wp2_with fail
    go_ret
    exact ⟨rfl, HN.out⟩
  have HF := Lib.hid (fewB_ok hf)
  rw [hf] at HC1
  clear hf
  by_cases h50 : 50 < l.length
  · have g50 : (50 : Int) < l.length := by omega
    clear h50
    go_enter Try.func7, Try.ntmps7
    go_wp2_with fail
    rw [HW1.out]
    refine (HC1.out _ HB0.out).mono ?_
    rintro e w3 ⟨rfl, hb3⟩
    have HB3 := Lib.hid (HB0.out.trans (hb3.mono HB0.out.size))
    clear hb3
    go_wp2_with fail
    refine (nets_any _).mono ?_
    rintro e wN ⟨rfl, hb⟩
    have HN := Lib.hid (HB3.out.trans (hb.mono HB3.out.size))
    clear hb
    go_wp2_with fail
    go_ret
    exact ⟨rfl, HN.out⟩
  have g50 : ¬ (50 : Int) < l.length := by omega
  by_cases h20 : 20 < bs.length
  · have g20 : (20 : Int) < bs.length := by omega
    clear h20 h50
    go_enter Try.func7, Try.ntmps7
    go_wp2_with fail
    rw [HW1.out]
    refine (HC1.out _ HB0.out).mono ?_
    rintro e w3 ⟨rfl, hb3⟩
    have HB3 := Lib.hid (HB0.out.trans (hb3.mono HB0.out.size))
    clear hb3
    go_wp2_with fail
    refine (nets_any _).mono ?_
    rintro e wN ⟨rfl, hb⟩
    have HN := Lib.hid (HB3.out.trans (hb.mono HB3.out.size))
    clear hb
    go_wp2_with fail
    go_ret
    exact ⟨rfl, HN.out⟩
  have g20 : ¬ (20 : Int) < bs.length := by omega
  clear h50 h20
  -- Earliest has an error, or no such station
  by_cases hE : startE st ls a t = 0
  case neg =>
    have hz : (startE st ls a t != 0) = true := by simpa using hE
    have HE := Lib.hid hE
    obtain ⟨q, hq⟩ : ∃ q, startE st ls a t = q := ⟨_, rfl⟩
    rw [hq] at hz
    have HQ := Lib.hid hq
    clear hE hq
    go_enter Try.func7, Try.ntmps7
    go_wp2_with fail
    rw [HW1.out]
    refine (HC1.out _ HB0.out).mono ?_
    rintro e w3 ⟨rfl, hb3⟩
    obtain ⟨n0, n1, _, hw3⟩ := HA.out w3 (hb3.mono (by have := hb3.size; omega))
    have HB3 := Lib.hid hw3
    clear hb3 hw3
    go_wp2_with fail
    refine (HC2.out _ HB3.out).mono ?_
    rintro e w4 ⟨v4, rfl, hb4, he4, _⟩
    obtain rfl := he4 HE.out
    rw [HQ.out]
    have HB4 := Lib.hid (HB3.out.trans (hb4.mono HB3.out.size))
    clear hb4 he4 n0 n1
    go_wp2_with fail
    refine (nets_any _).mono ?_
    rintro e wN ⟨rfl, hb⟩
    have HN := Lib.hid (HB4.out.trans (hb.mono HB4.out.size))
    clear hb
    go_wp2_with fail
    go_ret
    exact ⟨rfl, HN.out⟩
  obtain ⟨hne, a0, a1, t0, t1⟩ := startE_ok hE
  obtain ⟨s1, s10, l40, hks⟩ := netE_ok hne
  obtain ⟨m, rfl⟩ : ∃ m : Nat, a = m := ⟨a.toNat, by omega⟩
  obtain ⟨s, rfl⟩ : ∃ s : Nat, st = s := ⟨st.toNat, by omega⟩
  have HE := Lib.hid hE
  have HNE := Lib.hid (And.intro l40 hks)
  clear hE hne a0 a1 t0 t1 hks l40 hst ha ht hl hl5
  by_cases hbs : 0 ≤ b ∧ b < s
  case neg =>
    rcases (by omega : b < 0 ∨ (¬ b < 0 ∧ (s : Int) ≤ b)) with hb0 | ⟨hb0, hb1⟩
    · clear hbs
      go_enter Try.func7, Try.ntmps7
      go_wp2_with fail
      rw [HW1.out]
      refine (HC1.out _ HB0.out).mono ?_
      rintro e w3 ⟨rfl, hb3⟩
      obtain ⟨n0, n1, _, hw3⟩ := HA.out w3 (hb3.mono (by have := hb3.size; omega))
      have HB3 := Lib.hid hw3
      clear hb3 hw3
      go_wp2_with fail
      refine (HC2.out _ HB3.out).mono ?_
      rintro e w4 ⟨v4, rfl, hb4, _, he4⟩
      obtain ⟨at', by', h1, _⟩ := he4 HE.out
      rw [HE.out]
      obtain ⟨a4, p4, rfl, _⟩ := h1.form
      have HB4 := Lib.hid (HB3.out.trans (hb4.mono HB3.out.size))
      clear hb4 he4 n0 n1 h1
      go_wp2_with fail
      refine (nets_any _).mono ?_
      rintro e wN ⟨rfl, hb⟩
      have HN := Lib.hid (HB4.out.trans (hb.mono HB4.out.size))
      clear hb
      go_wp2_with fail
      go_ret
      exact ⟨rfl, HN.out⟩
    · have g0 : decide (b < 0) = false := decide_eq_false hb0
      clear hbs
      go_enter Try.func7, Try.ntmps7
      go_wp2_with fail
      rw [HW1.out]
      refine (HC1.out _ HB0.out).mono ?_
      rintro e w3 ⟨rfl, hb3⟩
      have HD3 := Lib.hid hb3
      obtain ⟨n0, n1, _, hw3⟩ := HA.out w3 (hb3.mono (by have := hb3.size; omega))
      have HB3 := Lib.hid hw3
      clear hb3 hw3
      go_wp2_with fail
      refine (HC2.out _ HB3.out).mono ?_
      rintro e w4 ⟨v4, rfl, hb4, _, he4⟩
      obtain ⟨at', by', h1, _⟩ := he4 HE.out
      rw [HE.out]
      obtain ⟨a4, p4, rfl, _⟩ := h1.form
      have HB4 := Lib.hid (HB3.out.trans (hb4.mono HB3.out.size))
      clear n0 n1
      obtain ⟨n0, n1, _, _⟩ := HA.out w4 (HD3.out.trans (hb4.mono HD3.out.size))
      clear hb4 he4 h1
      go_wp2_with fail
      refine (nets_any _).mono ?_
      rintro e wN ⟨rfl, hb⟩
      have HN := Lib.hid (HB4.out.trans (hb.mono HB4.out.size))
      clear hb
      go_wp2_with fail
      go_ret
      exact ⟨rfl, HN.out⟩
  obtain ⟨hb0, hb1⟩ := hbs
  obtain ⟨g, rfl⟩ : ∃ g : Nat, b = g := ⟨b.toNat, by omega⟩
  have hgs : g < s := by omega
  have g0 : decide ((g : Int) < 0) = false := decide_eq_false (by omega)
  have g1 : ¬ (s : Int) ≤ g := by omega
  have hwE : wayE s ls m g t = 0 := by
    unfold wayE stB
    rw [if_pos HE.out, decide_eq_true hb0, decide_eq_true hb1]
    rfl
  have HWE := Lib.hid hwE
  have HC3 := Lib.hid (fun w' (h : Below W.heap.size W w') v l' (hi : INRow w' v l') (hl' : l'.length ≤ 1000000) => CheckBounds_any s (.slice oa ls.length oc) ls m t v l' w' (HV.out.keep h) hi hl')
  have HC4 := Lib.hid (fun w' (h : Below W.heap.size W w') => Way_any s (.slice oa ls.length oc) ls m g t w' (HV.out.keep h))
  have HC5 := Lib.hid (fun w' (h : Below W.heap.size W w') v l' (hi : SpRow w' v l') => CheckWay_any s (.slice oa ls.length oc) ls m g t v l' w' (HV.out.keep h) hi)
  unfold ntV at HC3 HC4 HC5
  clear hwE hb hb0 hb1 s1
  go_enter Try.func7, Try.ntmps7
  go_wp2_with fail
  rw [HW1.out]
  refine (HC1.out _ HB0.out).mono ?_
  rintro e w3 ⟨rfl, hb3⟩
  have HD3 := Lib.hid hb3
  obtain ⟨n0, n1, _, hw3⟩ := HA.out w3 hb3
  have HB3 := Lib.hid hw3
  clear hb3 hw3
  go_wp2_with fail
  refine (HC2.out _ HB3.out).mono ?_
  rintro e w4 ⟨v4, rfl, hb4, _, he4⟩
  obtain ⟨at', by', h1, h2, h3⟩ := he4 HE.out
  rw [HE.out]
  simp only [Int.toNat_natCast] at h2
  have HI := Lib.hid h2
  have HS := Lib.hid h3
  have HR4 := Lib.hid h1
  obtain ⟨a4, p4, rfl, hcells⟩ := h1.form
  have hla := h2.la
  rw [hla] at hcells HR4 ⊢
  obtain ⟨bk, off, rfl, hbk, cg⟩ := hcells g hgs
  have HBF : Hid (boundsE s ls m t at' = 0) := Lib.hid (inv_bounds (ends_nat HNE.out.2) HE.out h2 h3)
  have HLA : Hid (at'.length ≤ 1000000) := Lib.hid (by omega)
  have HCE := Lib.hid (fun k (hk : k < s) => hcells k hk)
  have HB4 := Lib.hid (HB3.out.trans (hb4.mono HB3.out.size))
  have HD4 := Lib.hid (HD3.out.trans (hb4.mono HD3.out.size))
  have CG : Hid (∀ W', Below w4.heap.size w4 W' → W'.cell? ⟨bk, off + g, none⟩ = some (.int .i64 (at0 at' g))) := Lib.hid (fun W' h => (h.cell (p := ⟨bk, _, none⟩) hbk).trans cg)
  obtain ⟨y, hy⟩ : ∃ y, at0 at' g = y := ⟨_, rfl⟩
  rw [hy] at CG
  have HY := Lib.hid hy
  clear hb4 he4 n0 n1 h1 h2 h3 hcells hbk cg hla hy
  obtain ⟨n0, n1, _, _⟩ := HA.out w4 HD4.out
  go_wp2_with fail
  refine (HC3.out _ HB4.out _ _ HR4.out HLA.out).mono ?_
  rintro e w5 ⟨rfl, hb5⟩
  rw [HBF.out]
  have HB5 := Lib.hid (HB4.out.trans (hb5.mono HB4.out.size))
  have HD5 := Lib.hid (HD4.out.trans (hb5.mono HD4.out.size))
  have HQ5 := Lib.hid hb5
  clear hb5 n0 n1
  obtain ⟨n0, n1, _, _⟩ := HA.out w5 HD5.out
  go_wp2_with fail
  refine (HC4.out _ HB5.out).mono ?_
  rintro e w6 h6
  obtain ⟨v6, q, lw, c1, c2, rfl, hb6, hr6, hw6, hq6⟩ := way_out HWE.out HNE.out.2 HI.out HS.out HNE.out.1 (by omega) hgs h6
  rw [HY.out] at hq6
  obtain ⟨a6, p6, rfl, _⟩ := hr6.form
  have HB6 := Lib.hid (HB5.out.trans (hb6.mono HB5.out.size))
  have HD6 := Lib.hid (HD5.out.trans (hb6.mono HD5.out.size))
  have HQ6 := Lib.hid (HQ5.out.trans (hb6.mono HQ5.out.size))
  have HR6 := Lib.hid hr6
  have HW6 := Lib.hid hw6
  have HQQ := Lib.hid hq6
  clear h6 hb6 hr6 hw6 hq6 n0 n1
  obtain ⟨n0, n1, _, _⟩ := HA.out w6 HD6.out
  go_wp2_with fail
  refine (HC5.out _ HB6.out _ _ HR6.out).mono ?_
  rintro e w7 ⟨rfl, hb7⟩
  rw [HW6.out]
  have HB7 := Lib.hid (HB6.out.trans (hb7.mono HB6.out.size))
  have HD7 := Lib.hid (HD6.out.trans (hb7.mono HD6.out.size))
  have HQ7 := Lib.hid (HQ6.out.trans (hb7.mono HQ6.out.size))
  clear hb7 n0 n1
  obtain ⟨n0, n1, _, _⟩ := HA.out w7 HD7.out
  have cg := CG.out w7 HQ7.out
  obtain ⟨mm, h, hmh⟩ : ∃ mm h, wayR s ls m g t l = (mm, h) := ⟨_, _, rfl⟩
  have HMH := Lib.hid hmh
  have hfacts := proves_facts (bs := bs) HWE.out (ends_nat HNE.out.2) HI.out HS.out hmh
  rw [HY.out] at hfacts
  have hcase : (y < 0 ∧ q = 5 ∧ h ≠ 0) ∨ (0 ≤ y ∧ q = 0 ∧ c2 = 0 ∧ c1 = y ∧ h ≠ 0) ∨ (0 ≤ y ∧ q = 0 ∧ c2 = 0 ∧ c1 = y ∧ h = 0 ∧ y ≤ mm) := by
    rcases HQQ.out with ⟨h1, h2⟩ | ⟨h1, h2, h3, h4⟩
    · exact .inl ⟨h1, h2, fun h0 => by have := hfacts.1 h0; omega⟩
    · by_cases h0 : h = 0
      · exact .inr (.inr ⟨h1, h2, h3, h4, h0, (hfacts.1 h0).2⟩)
      · exact .inr (.inl ⟨h1, h2, h3, h4, h0⟩)
  have HFB := Lib.hid hfacts.2
  have HBC : Hid (∀ w', Below W.heap.size W w' → boundsE s ls m t bs = boundsE s ls m t bs ∧ Calls Try.prog 27 #[.agg #[.int .i64 s, .slice oa ls.length oc], .int .i64 m, .int .i64 t, .slice ba bs.length bc] w' fun e w'' => e = .returned (.int .i64 (boundsE s ls m t bs)) ∧ Below w'.heap.size w' w'') := Lib.hid (fun w' hw => ⟨rfl, HC3.out w' hw _ bs (HBS.out.keep hw) (by omega)⟩)
  obtain ⟨B, hB⟩ : ∃ B, boundsE s ls m t bs = B := ⟨_, rfl⟩
  rw [hB] at HBC HFB
  have HC6 := Lib.hid (fun w' (h : Below W.heap.size W w') => HC5.out w' h (.slice la l.length lc) l (HL.out.keep h))
  rw [hmh] at HC6
  simp only at HC6
  have hbz : (B != 0) = decide (B ≠ 0) := by by_cases hb : B = 0 <;> simp [hb]
  clear hfacts hmh hB
  rcases hcase with ⟨hy0, rfl, hh⟩ | ⟨hy0, rfl, rfl, rfl, hh⟩ | ⟨hy0, rfl, rfl, rfl, rfl, hym⟩
  case' inl =>
    have g2 : decide (0 ≤ y) = false := decide_eq_false (by omega)
    have hz : (h == 0) = false := by simpa using hh
    have hz2 : (h != 0) = true := by simpa using hh
    have HHH := Lib.hid (Or.inl hh : h ≠ 0 ∨ h = 0)
    clear hh
  case' inr.inl =>
    have hz : (h == 0) = false := by simpa using hh
    have hz2 : (h != 0) = true := by simpa using hh
    clear hh
  case' inr.inr =>
    have g3 : decide (c1 < 0) = false := decide_eq_false (by omega)
    have g4 : decide (mm < c1) = false := decide_eq_false (by omega)
  all_goals
    go_wp2_with fail
    refine (HC6.out _ HB7.out).mono ?_
    rintro e w8 ⟨rfl, hb8⟩
    have HB8 := Lib.hid (HB7.out.trans (hb8.mono HB7.out.size))
    have HD8 := Lib.hid (HD7.out.trans (hb8.mono HD7.out.size))
    have HQ8 := Lib.hid (HQ7.out.trans (hb8.mono HQ7.out.size))
    clear hb8 n0 n1 cg
    obtain ⟨n0, n1, _, _⟩ := HA.out w8 HD8.out
    have cg := CG.out w8 HQ8.out
    go_wp2_with fail
    refine (HBC.out _ HB8.out).2.mono ?_
    rintro e w9 ⟨rfl, hb9⟩
    have HB9 := Lib.hid (HB8.out.trans (hb9.mono HB8.out.size))
    have HD9 := Lib.hid (HD8.out.trans (hb9.mono HD8.out.size))
    have HQ9 := Lib.hid (HQ8.out.trans (hb9.mono HQ8.out.size))
    clear hb9 n0 n1 cg
    obtain ⟨n0, n1, _, _⟩ := HA.out w9 HD9.out
    have cg := CG.out w9 HQ9.out
    by_cases hB : B = 0
    case neg =>
      have hz3 : (B != 0) = true := by simpa using hB
      clear hB hbz
      go_wp2_with fail
      refine (nets_any _).mono ?_
      rintro e wN ⟨rfl, hb⟩
      have HN := Lib.hid (HB9.out.trans (hb.mono HB9.out.size))
      clear hb
      go_wp2_with fail
      go_ret
      exact ⟨rfl, HN.out⟩
    subst hB
    obtain ⟨hbl, hbm, hbb⟩ := HFB.out rfl
    have HBB := Lib.hid hbb
    have HBM := Lib.hid hbm
    clear hbb hbm HFB hbz
    subst hbl
    obtain ⟨a', cap', ea, hbcells⟩ := (HBS.out.keep HB9.out).form
    cases ea
    obtain ⟨bb, bo, rfl, hbbk, cbg⟩ := hbcells g hgs
    have KB : Hid (∀ W', Below w9.heap.size w9 W' → ∀ k, k < bs.length → W'.cell? ⟨bb, bo + k, none⟩ = some (.int .i64 (at0 bs k))) := Lib.hid (fun W' h k hk => by
      obtain ⟨b', o', e', hlt, hc⟩ := hbcells k hk
      cases e'
      exact (h.cell (p := ⟨bb, _, none⟩) hlt).trans hc)
    have KA : Hid (∀ W', Below w4.heap.size w4 W' → ∀ k, k < bs.length → W'.cell? ⟨bk, off + k, none⟩ = some (.int .i64 (at0 at' k))) := Lib.hid (fun W' h k hk => by
      obtain ⟨b', o', e', hlt, hc⟩ := HCE.out k hk
      cases e'
      exact (h.cell (p := ⟨bk, _, none⟩) hlt).trans hc)
    clear hbcells hbbk cbg cg
    go_wp2_with fail
    go_loopw [21] (fun i wr => ∃ k : Nat, k ≤ bs.length ∧ i = .int .i64 k ∧ Hid (Below w9.heap.size w9 wr)) (fun i _ => bs.length - (intOf i).toNat)
    case atStart => exact ⟨0, Nat.zero_le _, rfl, Lib.hid (Below.refl _ _)⟩
    case round =>
      clear n0 n1
      obtain ⟨k, hk, rfl, hBr⟩ := hrel
      obtain ⟨n0, n1, _, _⟩ := HA.out wr (HD9.out.trans (hBr.out.mono HD9.out.size))
      by_cases hkl : k < bs.length
      · have hki : (k : Int) < bs.length := by omega
        have hk0 : (0 : Int) ≤ k := by omega
        have ca := KA.out wr (HQ9.out.trans (hBr.out.mono HQ9.out.size)) k hkl
        have cb := KB.out wr hBr.out k hkl
        have hq := HBB.out k hkl
        obtain ⟨u, hu⟩ : ∃ u, at0 at' k = u := ⟨_, rfl⟩
        obtain ⟨v, hv⟩ : ∃ v, at0 bs k = v := ⟨_, rfl⟩
        rw [hu] at ca hq
        rw [hv] at cb hq
        clear hu hv
        by_cases hu0 : 0 ≤ u
        · obtain ⟨hq1, hq2⟩ := hq hu0
          have q1 : decide (v < 0) = false := decide_eq_false (by omega)
          have q2 : decide (u < v) = false := decide_eq_false (by omega)
          go_wp2_with fail
          go_quiet (fail)
          go_wp2_with fail
          go_roundw
          case rel => exact ⟨k + 1, by omega, by go_num, Lib.hid (below_drewN hBr.out _)⟩
          case measure => simp [intOf]; omega
        · have q1 : decide (0 ≤ u) = false := decide_eq_false (by omega)
          clear hq
          go_wp2_with fail
          go_quiet (fail)
          go_wp2_with fail
          go_roundw
          case rel => exact ⟨k + 1, by omega, by go_num, Lib.hid (below_drewN hBr.out _)⟩
          case measure => simp [intOf]; omega
      · obtain rfl : k = bs.length := by omega
        have HBr := Lib.hid (HB9.out.trans (hBr.out.mono HB9.out.size))
        have CB : Hid (∀ W', Below wr.heap.size wr W' → W'.cell? ⟨bb, bo + g, none⟩ = some (.int .i64 (at0 bs g))) := Lib.hid (fun W' h => KB.out W' (hBr.out.trans (h.mono hBr.out.size)) g hgs)
        obtain ⟨vg, hvg⟩ : ∃ vg, at0 bs g = vg := ⟨_, rfl⟩
        rw [hvg] at CB HBM
        clear hvg
        go_wp2_with fail
        refine (nets_any _).mono ?_
        rintro e wN ⟨rfl, hbN⟩
        have HN := Lib.hid (HBr.out.trans (hbN.mono HBr.out.size))
        have cv := CB.out wN hbN
        clear hbN
        first
          | (have hz9 := hz2
             go_wp2_with fail
             go_ret
             exact ⟨rfl, HN.out⟩)
          | (have hv9 := HBM.out
             obtain ⟨v0, v1⟩ := hv9 trivial
             go_wp2_with fail
             go_ret
             exact ⟨rfl, HN.out⟩)
end Go.Proofs.Ytiboolbndfhomaa
