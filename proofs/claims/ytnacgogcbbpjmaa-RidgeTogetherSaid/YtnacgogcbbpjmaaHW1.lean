/- The law's within and places: a map of places. -/
import Derived.Test.YtnacgogcbbpjmaaHM1
import Derived.Test.YtnacgogcbbpjmaaHK0
import Derived.Maps.Views
import Derived.Maps.Keyed
import Derived.DeepKeys4
set_option linter.unusedVariables false
set_option linter.unusedSimpArgs false
namespace Go.Proofs.Ytnacgogcbbpjmaa
open Go Go.RowKit

theorem lawPlM : Maps.Keyed Try.prog 32 := Maps.Keyed.of_law (deep_law_laid laidOut (m := 3) (by decide) (of_decide_eq_true (by kernel_rfl)) (by kernel_rfl) (by kernel_rfl))
theorem keyTyPl : Try.prog.keyType 32 = true := by kernel_rfl
theorem key_pl {x y : Int} (hx : 0 ≤ x ∧ x ≤ 1000000) (hy : 0 ≤ y ∧ y ≤ 1000000) : ∃ kl, keyOf Try.prog 32 (.agg #[.int .i64 x, .int .i64 y]) = some kl := by
  have hwx : (Lit.int .i64 x).wf = true := by
    show (decide ((-9223372036854775808 : Int) ≤ x) && decide (x ≤ 9223372036854775807)) = true
    rw [decide_eq_true (by omega), decide_eq_true (by omega)]; rfl
  have hwy : (Lit.int .i64 y).wf = true := by
    show (decide ((-9223372036854775808 : Int) ≤ y) && decide (y ≤ 9223372036854775807)) = true
    rw [decide_eq_true (by omega), decide_eq_true (by omega)]; rfl
  have hc2 : Try.prog.cellsOf 32 = 2 := by kernel_rfl
  have hc1 : Try.prog.cellsOf 3 = 1 := by kernel_rfl
  have hf : (Value.agg #[.int .i64 x, .int .i64 y]).formed Try.prog 32 = true := by
    simp [Value.formed, Try.underlying32, hc2]
  obtain ⟨m, hm⟩ : ∃ m, Try.prog.types.size = m + 1 := ⟨Try.prog.types.size - 1, by kernel_rfl⟩
  have hk : Try.prog.keyLits (Try.prog.types.size + 1) 32 [.int .i64 x, .int .i64 y] = some [.int .i64 x, .int .i64 y] := by
    rw [hm]
    simp [Program.keyLits, Try.underlying32, Try.underlying3, hc2, hc1, hwx, hwy]
  refine ⟨.string (keyBytes [.int .i64 x, .int .i64 y]), ?_⟩
  unfold keyOf
  rw [Try.underlying32, keyTyPl, hf]
  show Option.map (fun ls => Lit.string (keyBytes ls)) (Try.prog.keyLits (Try.prog.types.size + 1) 32 [.int .i64 x, .int .i64 y]) = _
  rw [hk]; rfl
theorem plainBoolM {P : Program} {e : TypeId} (he : P.underlying e = some .bool) {v : Value} {z : DataW Unit × List MemPlace} (h : plainElem (H := Unit) P e v = some z) : ∃ x, v = .bool x ∧ z = (.lit (.bool x), []) := by
  unfold plainElem at h
  rw [he] at h
  cases v <;> simp at h
  rename_i x
  exact ⟨x, rfl, h.symm⟩
def okPl (p : Pl) : Prop := ∃ kl, keyOf Try.prog 32 (.agg #[.int .i64 p.1, .int .i64 p.2]) = some kl
/-- A map in which the first places of a list stand. -/
def PlMap (w : World) (b : Nat) (l : List Pl) (k : Nat) : Prop :=
  ∃ D : DataW Unit, w.ownsMap Try.prog 32 (plainElem (H := Unit) Try.prog 4) b k D ∧ Maps.IsMap D ∧ ∀ j, j < k → ∀ kl, keyOf Try.prog 32 (.agg #[.int .i64 (l.getD j (0, 0)).1, .int .i64 (l.getD j (0, 0)).2]) = some kl → ∀ z, D.atKey kl z = .lit (.bool true)
theorem PlMap.kept {w w' : World} {b : Nat} {l : List Pl} {k : Nat} (h : PlMap w b l k) (hb : Below w.heap.size w w') : PlMap w' b l k := by
  obtain ⟨D, h1, h2, h3⟩ := h
  exact ⟨D, h1.kept (row := none) ⟨hb.os, hb.tape, hb.output, hb.size, fun j hj _ => hb.block j hj⟩ (by simp), h2, h3⟩
theorem PlMap.start (w : World) (l : List Pl) : PlMap (w.alloc (.map #[] 0)) w.heap.size l 0 :=
  ⟨_, World.ownsMap_made w Try.prog 32 (plainElem (H := Unit) Try.prog 4), Maps.isMap_empty, fun j hj => by omega⟩
theorem PlMap.look {w : World} {b : Nat} {l : List Pl} {k : Nat} (h : PlMap w b l k) {p : Pl} {j : Nat} (hj : j < k) (hp : l.getD j (0, 0) = p) (hk : okPl p) :
    (Instr.lookup 90 (.map (some b)) (.agg #[.int .i64 p.1, .int .i64 p.2]) false).run Try.prog w = .ok (.bool true) w := by
  obtain ⟨D, h1, h2, h3⟩ := h
  obtain ⟨kl, hkl⟩ := hk
  obtain ⟨v, ps, hrun, hv⟩ := h1.lookup (t := 90) (e := 4) lawPlM Try.underlying90 (z := .bool false) (by kernel_rfl) (plainElem_bool Try.underlying4 false) hkl
  rw [h3 j hj kl (by rw [hp]; exact hkl)] at hv
  obtain ⟨x, rfl, e⟩ := plainBoolM Try.underlying4 hv
  cases e
  exact hrun
theorem PlMap.put {w' : World} {b : Nat} {l : List Pl} {k : Nat} {D : DataW Unit} (h2 : Maps.IsMap D) (h3 : ∀ j, j < k → ∀ kl, keyOf Try.prog 32 (.agg #[.int .i64 (l.getD j (0, 0)).1, .int .i64 (l.getD j (0, 0)).2]) = some kl → ∀ z, D.atKey kl z = .lit (.bool true)) {kl : Lit} (hkl : keyOf Try.prog 32 (.agg #[.int .i64 (l.getD k (0, 0)).1, .int .i64 (l.getD k (0, 0)).2]) = some kl)
    (h : w'.ownsMap Try.prog 32 (plainElem (H := Unit) Try.prog 4) b (k + 1) (D.put kl (.lit (.bool true)))) : PlMap w' b l (k + 1) := by
  refine ⟨_, h, h2.put _ _, fun j hj kj hkj z => ?_⟩
  by_cases e : kj = kl
  · subst e
    exact Maps.atKey_put_same h2 (lawPlM.key hkl) _ _
  · rw [Maps.atKey_put_other e]
    by_cases e2 : j = k
    · subst e2; rw [hkl] at hkj; exact absurd (Option.some.inj hkj).symm e
    · exact h3 j (by omega) kj hkj z
set_option maxRecDepth 100000 in
set_option maxHeartbeats 4000000 in
/-- Places that stand among others: the law's within answers true. -/
theorem lwithin_any (v1 v2 : Value) (l1 l2 : List Pl) (w : World) (h1 : PlRow w v1 l1) (h2 : PlRow w v2 l2) (hl1 : l1.length ≤ 1000000) (hl2 : l2.length ≤ 1000000) (hok : ∀ p ∈ l2, okPl p) (hs : ∀ p ∈ l1, p ∈ l2) :
    Calls Try.prog 11 #[v1, v2] w fun e w' => e = .returned (.bool true) ∧ Below w.heap.size w w' := by
  obtain ⟨oa, ocap, rfl, hc1⟩ := h1.form
  obtain ⟨pa, pcap, rfl, hc2⟩ := h2.form
  have HC1 := Lib.hid hc1
  have HC2 := Lib.hid hc2
  have HOK := Lib.hid hok
  have HS := Lib.hid hs
  have HVB := Lib.hid (plainElem_bool (H := Unit) Try.underlying4 true)
  have HM0 := Lib.hid (PlMap.start w l2)
  have hmm := @run_makeMap Try.prog
  have HB0 := Lib.hid ((Below.refl _ w).alloc (Nat.le_refl _) (.map #[] 0))
  clear hc1 hc2 h1 h2 hok hs
  go_enter Try.func11, Try.ntmps11
  go_wp2_with fail
  go_loopw [6] (fun i wr => ∃ (k : Nat), k ≤ l2.length ∧ i = .int .i64 k ∧ Hid (Below w.heap.size w wr) ∧ Hid (PlMap wr w.heap.size l2 k)) (fun i _ => l2.length - (intOf i).toNat)
  case atStart => exact ⟨0, Nat.zero_le _, rfl, HB0, HM0⟩
  case round =>
    obtain ⟨k, hk, rfl, hB, hM⟩ := hrel
    by_cases hkl : k < l2.length
    · obtain ⟨b', off', rfl, _, hb', d0, d1⟩ := HC2.out k hkl
      have hki : (k : Int) < l2.length := by omega
      have hk0 : (0 : Int) ≤ k := by omega
      have f0 := (hB.out.cell (p := ⟨b', _, none⟩) hb').trans d0
      have f1 := (hB.out.cell (p := ⟨b', _, none⟩) hb').trans d1
      obtain ⟨kl, hkl2⟩ := HOK.out (l2.getD k (0, 0)) (by rw [List.getD_eq_getElem?_getD, List.getElem?_eq_getElem hkl]; exact List.getElem_mem _)
      have HKL := Lib.hid hkl2
      obtain ⟨D, hD1, hD2, hD3⟩ := hM.out
      have HD1 := Lib.hid hD1
      have HD2 := Lib.hid hD2
      have HD3 := Lib.hid hD3
      have hmx : k < maxLen := by unfold maxLen; omega
      obtain ⟨⟨x, y⟩, hx⟩ : ∃ x, l2.getD k (0, 0) = x := ⟨_, rfl⟩
      have HX := Lib.hid hx
      have HKX : Hid (keyOf Try.prog 32 (.agg #[.int .i64 x, .int .i64 y]) = some kl) := Lib.hid (by rw [hx] at hkl2; exact hkl2)
      rw [hx] at f0 f1
      simp only at f0 f1
      clear hx d0 d1 hb' hkl2 hD1 hD2 hD3 hM
      go_wp2_with (at_mapUpdate; refine wpList_mapUpdate_own _ rfl _ _ _ 90 rfl 32 4 lawPlM Try.underlying90 _ w.heap.size _ _ rfl HD1.out hmx _ _ kl rfl rfl HKX.out (.lit (.bool true)) [] HVB.out ?_; intro w5 hown5 hgrow5)
      have HN := Lib.hid (PlMap.put HD2.out HD3.out HKL.out hown5)
      have HBN : Hid (Below w.heap.size w w5) := Lib.hid (hB.out.grown hgrow5 hB.out.size (fun j e => by cases e; exact Nat.le_refl _))
      clear hown5 hgrow5 f0 f1
      go_wp2_with fail
      go_roundw
      case rel => exact ⟨k + 1, by omega, by go_num, HBN, HN⟩
      case measure => simp [intOf]; omega
    · obtain rfl : k = l2.length := by omega
      go_wp2_with fail
      go_loopw [7] (fun i wr => ∃ (k : Nat), k ≤ l1.length ∧ i = .int .i64 k ∧ Hid (Below w.heap.size w wr) ∧ Hid (PlMap wr w.heap.size l2 l2.length)) (fun i _ => l1.length - (intOf i).toNat)
      case atStart => exact ⟨0, Nat.zero_le _, rfl, hB, hM⟩
      case round =>
        clear hB hM
        obtain ⟨k, hk, rfl, hB, hM⟩ := hrel
        by_cases hkl : k < l1.length
        · obtain ⟨b', off', rfl, _, hb', d0, d1⟩ := HC1.out k hkl
          have hki : (k : Int) < l1.length := by omega
          have hk0 : (0 : Int) ≤ k := by omega
          have f0 := (hB.out.cell (p := ⟨b', _, none⟩) hb').trans d0
          have f1 := (hB.out.cell (p := ⟨b', _, none⟩) hb').trans d1
          have hmem := HS.out (l1.getD k (0, 0)) (by rw [List.getD_eq_getElem?_getD, List.getElem?_eq_getElem hkl]; exact List.getElem_mem _)
          obtain ⟨⟨x, y⟩, hx⟩ : ∃ x, l1.getD k (0, 0) = x := ⟨_, rfl⟩
          rw [hx] at f0 f1 hmem
          simp only at f0 f1
          obtain ⟨j, hj, hje⟩ := List.getElem_of_mem hmem
          have hrun := hM.out.look (p := (x, y)) hj (by rw [List.getD_eq_getElem?_getD, List.getElem?_eq_getElem hj]; exact hje) (HOK.out _ hmem)
          simp only at hrun
          clear hx d0 d1 hb' hmem hje
          go_wp2_with fail
          go_roundw
          case rel => exact ⟨k + 1, by omega, by go_num, hB, hM⟩
          case measure => simp [intOf]; omega
        · obtain rfl : k = l1.length := by omega
          go_wp2_with fail
          go_ret
          exact ⟨rfl, hB.out⟩
set_option maxRecDepth 100000 in
set_option maxHeartbeats 2000000 in
/-- The law's places tells whether two lists are equal. -/
theorem lplaces_any (v1 v2 : Value) (l1 l2 : List Pl) (w : World) (h1 : PlRow w v1 l1) (h2 : PlRow w v2 l2) (hl1 : l1.length ≤ 1000000) (hl2 : l2.length ≤ 1000000) :
    Calls Try.prog 15 #[v1, v2] w fun e w' => e = .returned (.bool (decide (l1 = l2))) ∧ Below w.heap.size w w' := by
  obtain ⟨oa, ocap, rfl, hc1⟩ := h1.form
  obtain ⟨pa, pcap, rfl, hc2⟩ := h2.form
  have HC1 := Lib.hid hc1
  have HC2 := Lib.hid hc2
  clear hc1 hc2 h1 h2
  go_enter Try.func15, Try.ntmps15
  by_cases hle : l1.length = l2.length
  case neg =>
    have hq : (((l1.length : Nat) : Int) != ((l2.length : Nat) : Int)) = true := by simp; omega
    have hq2 : ¬ ((l1.length : Nat) : Int) = ((l2.length : Nat) : Int) := by omega
    have hne : ¬ l1 = l2 := fun e => hle (by rw [e])
    go_wp2_with fail
    go_ret
    exact ⟨by simp [hne], Below.refl _ _⟩
  rw [← hle]
  have hq : (((l1.length : Nat) : Int) != ((l1.length : Nat) : Int)) = false := by simp
  have HLE := Lib.hid hle
  clear hle
  go_wp2_with fail
  go_loopw [5] (fun i wr => ∃ (k : Nat), k ≤ l1.length ∧ i = .int .i64 k ∧ Hid (Below w.heap.size w wr) ∧ Hid (∀ j, j < k → l1.getD j (0, 0) = l2.getD j (0, 0))) (fun i _ => l1.length - (intOf i).toNat)
  case atStart => exact ⟨0, Nat.zero_le _, rfl, Lib.hid (Below.refl _ _), Lib.hid (fun j hj => by omega)⟩
  case round =>
    obtain ⟨k, hk, rfl, hB, hE⟩ := hrel
    by_cases hkl : k < l1.length
    · obtain ⟨b, off, rfl, _, hb, c0, c1⟩ := HC1.out k hkl
      obtain ⟨b', off', rfl, _, hb', d0, d1⟩ := HC2.out k (by rw [← HLE.out]; exact hkl)
      have hki : (k : Int) < l1.length := by omega
      have hk0 : (0 : Int) ≤ k := by omega
      have e0 := (hB.out.cell (p := ⟨b, _, none⟩) hb).trans c0
      have e1 := (hB.out.cell (p := ⟨b, _, none⟩) hb).trans c1
      have f0 := (hB.out.cell (p := ⟨b', _, none⟩) hb').trans d0
      have f1 := (hB.out.cell (p := ⟨b', _, none⟩) hb').trans d1
      obtain ⟨⟨x, y⟩, hx⟩ : ∃ x, l1.getD k (0, 0) = x := ⟨_, rfl⟩
      obtain ⟨⟨x', y'⟩, hx'⟩ : ∃ x, l2.getD k (0, 0) = x := ⟨_, rfl⟩
      rw [hx] at e0 e1
      rw [hx'] at f0 f1
      simp only at e0 e1 f0 f1
      have HEQ : Hid (l1.getD k (0, 0) = (x, y) ∧ l2.getD k (0, 0) = (x', y')) := Lib.hid ⟨hx, hx'⟩
      clear hx hx' c0 c1 d0 d1 hb hb'
      by_cases hxy : x = x' ∧ y = y'
      · obtain ⟨rfl, rfl⟩ := hxy
        have HE2 : Hid (∀ j, j < k + 1 → l1.getD j (0, 0) = l2.getD j (0, 0)) := Lib.hid (fun j hj => by
          by_cases e : j = k
          · subst e; rw [HEQ.out.1, HEQ.out.2]
          · exact hE.out j (by omega))
        go_wp2_with fail
        go_quiet (fail)
        go_wp2_with fail
        go_roundw
        case rel => exact ⟨k + 1, by omega, by go_num, Lib.hid (below_drewN hB.out _), HE2⟩
        case measure => simp [intOf]; omega
      · have hne : ¬ l1 = l2 := fun e => hxy (by
          have h := HEQ.out
          rw [e] at h
          have h2 := h.1.symm.trans h.2
          exact ⟨congrArg Prod.fst h2, congrArg Prod.snd h2⟩)
        have HNE := Lib.hid hne
        by_cases hx : x = x'
        · subst hx
          have hy : (y == y') = false := by simpa using fun e => hxy ⟨rfl, e⟩
          clear hne hxy
          go_wp2_with fail
          go_quiet (fail)
          go_wp2_with fail
          go_ret
          exact ⟨by simp [HNE.out], below_drewN hB.out _⟩
        · have hx2 : (x == x') = false := by simpa using hx
          clear hne hxy hx
          go_wp2_with fail
          go_quiet (fail)
          go_wp2_with fail
          go_ret
          exact ⟨by simp [HNE.out], below_drewN hB.out _⟩
    · obtain rfl : k = l1.length := by omega
      have heq : l1 = l2 := by
        refine List.ext_getElem HLE.out fun j h1 h2 => ?_
        have h3 := hE.out j h1
        rw [List.getD_eq_getElem?_getD, List.getD_eq_getElem?_getD, List.getElem?_eq_getElem h1, List.getElem?_eq_getElem h2] at h3
        exact h3
      have HEQ := Lib.hid heq
      clear heq
      go_wp2_with fail
      go_ret
      exact ⟨by simp [HEQ.out], hB.out⟩
end Go.Proofs.Ytnacgogcbbpjmaa
