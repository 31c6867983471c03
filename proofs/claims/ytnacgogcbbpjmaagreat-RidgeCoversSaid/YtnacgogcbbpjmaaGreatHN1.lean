/- The reference's rising: a list of numbers in increasing order. -/
import Derived.Test.YtnacgogcbbpjmaaGreatHC1
import Derived.Test.YtnacgogcbbpjmaaGreatHJ0
import Derived.Test.YtnacgogcbbpjmaaGreatHD3
import Derived.Test.YtnacgogcbbpjmaaGreatHM5
import Derived.Test.YtnacgogcbbpjmaaGreatHC2
import Derived.Test.YtnacgogcbbpjmaaGreatHL3
import Derived.ChangeKeysEq
set_option linter.unusedVariables false
set_option linter.unusedSimpArgs false
namespace Go.Proofs.YtnacgogcbbpjmaaGreat
open Go Go.RowKit

/-- A number laid into a list. -/
def insK (out : List Int) (x : Int) (k : Nat) : List Int := out.take k ++ x :: out.drop k
theorem insK_perm (out : List Int) (x : Int) (k : Nat) : (insK out x k).Perm (x :: out) := by
  unfold insK
  have h := List.perm_middle (a := x) (l₁ := out.take k) (l₂ := out.drop k)
  rwa [List.take_append_drop] at h
theorem ge_at {out : List Int} (hs : out.Pairwise (· ≤ ·)) {i j : Nat} (hij : i ≤ j) (hj : j < out.length) : out.getD i 0 ≤ out.getD j 0 := by
  rcases Nat.lt_or_ge i j with h | h
  · rw [List.getD_eq_getElem?_getD, List.getD_eq_getElem?_getD, List.getElem?_eq_getElem (by omega), List.getElem?_eq_getElem hj]
    exact List.pairwise_iff_getElem.1 hs i j (by omega) hj h
  · obtain rfl : i = j := by omega
    exact Int.le_refl _
theorem insK_sorted {out : List Int} {x : Int} {k : Nat} (hs : out.Pairwise (· ≤ ·)) (hk : k ≤ out.length) (h1 : ∀ m, k ≤ m → m < out.length → x < out.getD m 0) (h2 : k = 0 ∨ out.getD (k - 1) 0 ≤ x) : (insK out x k).Pairwise (· ≤ ·) := by
  unfold insK
  have hd : ∀ b ∈ out.drop k, x ≤ b := fun b hb => by
    obtain ⟨i, hi, rfl⟩ := List.getElem_of_mem hb
    rw [List.getElem_drop]
    have hl : k + i < out.length := by rw [List.length_drop] at hi; omega
    have := h1 (k + i) (by omega) hl
    rw [List.getD_eq_getElem?_getD, List.getElem?_eq_getElem hl] at this
    exact Int.le_of_lt this
  have ht : ∀ a ∈ out.take k, a ≤ x := fun a ha => by
    obtain ⟨i, hi, rfl⟩ := List.getElem_of_mem ha
    rw [List.getElem_take]
    have hl : i < k := by rw [List.length_take] at hi; omega
    rcases h2 with h2 | h2
    · omega
    · have h3 := ge_at hs (show i ≤ k - 1 by omega) (by omega)
      have h4 : out.getD i 0 = out[i]'(by omega) := by rw [List.getD_eq_getElem?_getD, List.getElem?_eq_getElem (by omega)]; rfl
      rw [h4] at h3
      omega
  have hp := hs
  rw [← List.take_append_drop k out, List.pairwise_append] at hp
  rw [List.pairwise_append, List.pairwise_cons]
  refine ⟨hp.1, ⟨hd, hp.2.1⟩, fun a ha b hb => ?_⟩
  rcases List.mem_cons.1 hb with rfl | hb
  · exact ht a ha
  · exact hp.2.2 a ha b hb
theorem own_ints {w : World} {base : Nat} {v : Value} {l : List Int} (h : w.ownsRow base 3 1 v l.length (l.map (Value.int .i64 ·))) :
    (v = .slice none 0 0 ∧ l = []) ∨ ∃ g c, v = .slice (some ⟨g, 0, none⟩) l.length c ∧ l.length ≤ c ∧ base ≤ g ∧ g < w.heap.size ∧ ∀ i, i < l.length → w.cell? ⟨g, i, none⟩ = some (.int .i64 (l.getD i 0)) := by
  rcases h.2 with ⟨h1, h2⟩ | ⟨nb, nc, cur, e1, e2, e3, e4, e5, e6, e7⟩
  · exact .inl ⟨h1, List.eq_nil_of_length_eq_zero h2⟩
  · refine .inr ⟨nb, nc, e1, by omega, e2, (Array.getElem?_eq_some_iff.1 e3).1, fun i hi => ?_⟩
    have h7 : cur.toList.take l.length = l.map (Value.int .i64 ·) := by simpa using e7
    have g1 : (l.map (Value.int .i64 ·))[i]? = some (.int .i64 (l.getD i 0)) := by
      rw [List.getElem?_map, List.getElem?_eq_getElem hi, List.getD_eq_getElem?_getD, List.getElem?_eq_getElem hi]; rfl
    rw [← h7, List.getElem?_take_of_lt hi, Array.getElem?_toList] at g1
    rw [cellH e3]; exact g1
theorem own_pos {w : World} {base : Nat} {v : Value} {n : Nat} {xs : List Value} (h : w.ownsRow base 3 1 v n xs) (hn : 0 < n) : ∃ g c, v = .slice (some ⟨g, 0, none⟩) n c ∧ n ≤ c ∧ base ≤ g := by
  rcases h.2 with ⟨_, h2⟩ | ⟨nb, nc, cur, e1, e2, e3, e4, e5, e6, e7⟩
  · omega
  · exact ⟨nb, nc, e1, by omega, e2⟩
set_option maxRecDepth 100000 in
set_option maxHeartbeats 8000000 in
theorem rising_any (v : Value) (l : List Int) (w : World) (hv : INRow w v l) (hl : l.length ≤ 1000) :
    Calls Tryz.prog 45 #[v] w fun e w' => ∃ (v' : Value) (out : List Int), e = .returned v' ∧ Below w.heap.size w w' ∧ w'.ownsRow w.heap.size 3 1 v' out.length (out.map (Value.int .i64 ·)) ∧ out.Perm l ∧ out.Pairwise (· ≤ ·) := by
  obtain ⟨la, lc, rfl, hlc⟩ := hv.form
  have HLC := Lib.hid hlc
  clear hlc hv
  obtain ⟨i0, hi0, hz0, hz1, hz2⟩ := info_parts info_in
  go_enter Tryz.func45, Tryz.ntmps45
  go_wp2_with fail
  go_loopw [3, 4] (fun v i wr => ∃ (k : Nat) (out : List Int), k ≤ l.length ∧ i = .int .i64 k ∧ (k = 0 → v = .slice none 0 0) ∧ Hid (out.Perm (l.take k)) ∧ Hid (out.Pairwise (· ≤ ·)) ∧ Hid (Below w.heap.size w wr) ∧ Hid (wr.ownsRow w.heap.size 3 1 v out.length (out.map (Value.int .i64 ·)))) (fun _ i _ => l.length - (intOf i).toNat)
  case atStart => exact ⟨0, [], Nat.zero_le _, rfl, fun _ => rfl, Lib.hid (by simp), Lib.hid List.Pairwise.nil, Lib.hid (Below.refl _ _), Lib.hid (World.ownsRow_nil _ _ _ _)⟩
  case round =>
    obtain ⟨k, out, hk, rfl, hKN, hP, hS, hB, hO⟩ := hrel
    by_cases hkl : k < l.length
    · obtain ⟨lb, lo, rfl, hlb, c0⟩ := HLC.out k hkl
      have hki : (k : Int) < l.length := by omega
      have hk0 : (0 : Int) ≤ k := by omega
      have HPN : Hid (∀ o' : List Int, o'.Perm (l.getD k 0 :: out) → o'.Perm (l.take (k + 1))) := Lib.hid (fun o' h => by
        refine h.trans ?_
        rw [List.take_succ_eq_append_getElem hkl]
        refine (List.Perm.cons _ hP.out).trans ?_
        have e : l.getD k 0 = l[k] := by rw [List.getD_eq_getElem?_getD, List.getElem?_eq_getElem hkl]; rfl
        rw [e]
        exact (List.perm_append_singleton _ _).symm)
      have HOL : Hid (out.length = k) := Lib.hid (by have := hP.out.length_eq; rw [List.length_take] at this; omega)
      obtain ⟨x, hx⟩ : ∃ x, l.getD k 0 = x := ⟨_, rfl⟩
      rw [hx] at c0 HPN
      have HX0 : Hid (∀ W', Below w.heap.size w W' → W'.cell? ⟨lb, lo + k, none⟩ = some (.int .i64 x)) := Lib.hid (fun W' h => (h.cell (p := ⟨lb, _, none⟩) hlb).trans c0)
      clear hx c0 hlb
      rcases own_ints hO.out with ⟨rfl, rfl⟩ | ⟨g, c, rfl, hgc, hgb, hgs, hgv⟩
      · clear hKN
        have hk00 : k = 0 := by have := HOL.out; simpa using this.symm
        subst hk00
        simp only [List.length_nil, Nat.add_zero] at HX0 hO ⊢
        clear HOL
        go_wp2_with fail
        go_loopw [5] (fun t wr => t = .int .i64 0 ∧ Hid (Below w.heap.size w wr)) (fun t _ => 0)
        case atStart => exact ⟨rfl, hB⟩
        case round =>
          clear hO hB
          obtain ⟨rfl, hB⟩ := hrel
          go_wp2_with fail
          go_quiet (fail)
          obtain ⟨Z, hZ⟩ : ∃ Z, wr.drewN nq = Z := ⟨_, rfl⟩
          have hzb : Below w.heap.size w Z := by rw [← hZ]; exact below_drewN hB.out _
          have HZB := Lib.hid hzb
          rw [hZ]
          clear hZ
          have hY := (Below.refl _ Z).alloc (Nat.le_refl Z.heap.size) (.cells #[] 3)
          have x0 := HX0.out _ (hzb.trans (hY.mono hzb.size))
          have HOM : Hid ((Z.alloc (.cells #[] 3)).ownsRow Z.heap.size 3 1 (.slice (some ⟨Z.heap.size, 0, none⟩) 0 0) 0 []) := Lib.hid (World.ownsRow_made Z #[] 0 (Nat.le_refl _) (by unfold maxLen; omega) rfl)
          have HYB := Lib.hid hY
          clear hY hzb
          go_wp2_with (at_builtin; refine wpList_append_own _ rfl _ _ 22 rfl Z.heap.size 3 i0 (.int .i64 0) 1 8 Tryz.underlying22 hi0 hz0 hz1 hz2 rfl (by decide) _ _ _ rfl (World.ownsRow.alloc HOM.out _) ⟨Z.heap.size + 1, 0, none⟩ 1 1 [.int .i64 x] rfl rfl (fun j u h => by have h3 := cell_one' (Z.alloc (.cells #[] 3)) _ 3 j u h; simpa using h3) (by simp [Value.oneCell']) (by unfold maxLen; omega) (by omega) (by simp; omega) ?_; intro v' w7 hown' hgrow _; obtain ⟨g9, c9, rfl, hc9, hg9⟩ := own_pos hown' (by omega); simp only [Nat.zero_add, List.nil_append] at hown' hc9 ⊢)
          have HB7 : Hid (Below w.heap.size w w7) := Lib.hid (((HZB.out.alloc HZB.out.size (.cells #[] 3)).alloc (by have := HZB.out.size; simp; omega) (.cells #[.int .i64 x] 3)).grown hgrow (by have := HZB.out.size; simp; omega) (fun j e => Nat.le_trans HZB.out.size (World.ownsRow.lt HOM.out j e).1))
          refine ⟨⟨1, [x], by omega, rfl, fun h => absurd h (by decide), Lib.hid (HPN.out [x] (List.Perm.refl _)), Lib.hid (by simp), HB7, Lib.hid (own_base hown' HZB.out.size)⟩, ?_⟩
          simp [intOf]; omega
      · have HGV : Hid (∀ W', Below wr.heap.size wr W' → ∀ i, i < out.length → W'.cell? ⟨g, i, none⟩ = some (.int .i64 (out.getD i 0))) := Lib.hid (fun W' h i hi => (h.cell (p := ⟨g, i, none⟩) hgs).trans (hgv i hi))
        have HGS : Hid (g < wr.heap.size ∧ w.heap.size ≤ g) := Lib.hid ⟨hgs, hgb⟩
        have HK1 : Hid (0 < out.length) := Lib.hid (by
          rcases Nat.eq_zero_or_pos k with h | h
          · exact absurd (hKN h) (by simp)
          · have := HOL.out; omega)
        clear hKN
        have HLEN : Hid (out.length ≤ 1000) := Lib.hid (by have := HOL.out; omega)
        have hgci : (out.length : Int) ≤ c := by omega
        clear hgv hO hgs hgb
        go_wp2_with fail
        go_loopw [5] (fun t wr2 => ∃ (j : Nat), j ≤ out.length ∧ t = .int .i64 j ∧ Hid (∀ m, j ≤ m → m < out.length → x < out.getD m 0) ∧ Hid (Below wr.heap.size wr wr2)) (fun t _ => (intOf t).toNat)
        case atStart => exact ⟨out.length, Nat.le_refl _, rfl, Lib.hid (fun m h1 h2 => by omega), Lib.hid (Below.refl _ _)⟩
        case round =>
          obtain ⟨j, hj, rfl, hX, hB2⟩ := hrel
          have HBB := Lib.hid (hB.out.trans (hB2.out.mono hB.out.size))
          have hj0 : (0 : Int) ≤ j := by omega
          have hjl : (j : Int) ≤ out.length := by omega
          have x0 := HX0.out wr HBB.out
          have key : ∀ (nq : Nat) (F : List Value → Prop), True := fun _ _ => trivial
          by_cases hj1 : 0 < j
          · obtain ⟨i, rfl⟩ : ∃ i, j = i + 1 := ⟨j - 1, by omega⟩
            have hil : i < out.length := by omega
            have y0 := HGV.out wr hB2.out i hil
            obtain ⟨y, hy⟩ : ∃ y, out.getD i 0 = y := ⟨_, rfl⟩
            rw [hy] at y0
            have HY := Lib.hid hy
            have hi0' : (0 : Int) ≤ i := by omega
            have hil' : (i : Int) < out.length := by omega
            have hp0 : (0 : Int) < (i : Int) + 1 := by omega
            have hmx : max (0 : Int) i = i := by omega
            have hw1 : IntKind.i64.wrap (i : Int) = i := IntWalk.i64_in _ (by have := HLEN.out; omega)
            clear hy key
            by_cases hxy : x < y
            · go_wp2_with fail
              go_quiet (fail)
              clear hw1
              have HW2 : Hid (wrap64 (i : Int) = i) := Lib.hid (w64 (by have := HLEN.out; omega))
              have HXN : Hid (∀ m, i ≤ m → m < out.length → x < out.getD m 0) := Lib.hid (fun m h1 h2 => by
                rcases Nat.lt_or_ge i m with h3 | h3
                · exact hX.out m (by omega) h2
                · obtain rfl : m = i := by omega
                  rw [HY.out]; exact hxy)
              have hi2 : i ≤ out.length := by omega
              go_wp2_with fail
              refine ⟨⟨i, hi2, by rw [HW2.out], HXN, Lib.hid (below_drewN hB2.out _)⟩, ?_⟩
              rw [HW2.out]
              simp [intOf]
            · have g0 : decide (x < y) = false := decide_eq_false hxy
              go_wp2_with fail
              go_quiet (fail)
              clear hw1
              obtain ⟨Z, hZ⟩ : ∃ Z, wr.drewN nq = Z := ⟨_, rfl⟩
              have HZB : Hid (Below w.heap.size w Z) := Lib.hid (by rw [← hZ]; exact below_drewN HBB.out _)
              have HGZ : Hid (∀ W', Below Z.heap.size Z W' → ∀ i, i < out.length → W'.cell? ⟨g, i, none⟩ = some (.int .i64 (out.getD i 0))) := Lib.hid (fun W' h => HGV.out W' (by
                have h2 := below_drewN hB2.out nq
                rw [hZ] at h2
                exact h2.trans (h.mono h2.size)))
              rw [hZ]
              clear hZ
              have hY := (Below.refl _ Z).alloc (Nat.le_refl Z.heap.size) (.cells #[] 3)
              have HXZ : Hid (∀ W', Below Z.heap.size Z W' → W'.cell? ⟨lb, lo + k, none⟩ = some (.int .i64 x)) := Lib.hid (fun W' h => HX0.out W' (HZB.out.trans (h.mono HZB.out.size)))
              have HOM : Hid ((Z.alloc (.cells #[] 3)).ownsRow Z.heap.size 3 1 (.slice (some ⟨Z.heap.size, 0, none⟩) 0 0) 0 []) := Lib.hid (World.ownsRow_made Z #[] 0 (Nat.le_refl _) (by unfold maxLen; omega) rfl)
              have HN1 : Hid (∀ W', Below Z.heap.size Z W' → ∀ m u, ((out.take (i + 1)).map (Value.int .i64 ·))[m]? = some u → W'.cell? ((⟨g, 0, none⟩ : Addr).add m) = some u) := Lib.hid (fun W' h m u hi => by
                have hil : m < (out.take (i + 1)).length := by have := (List.getElem?_eq_some_iff.1 hi).1; simpa using this
                rw [List.length_take] at hil
                rw [addr_add, Nat.zero_add, HGZ.out W' h m (by omega), ← hi, List.getElem?_map, List.getElem?_take_of_lt (by omega), List.getElem?_eq_getElem (by omega), List.getD_eq_getElem?_getD, List.getElem?_eq_getElem (by omega)]; rfl)
              have HN3 : Hid (∀ W', Below Z.heap.size Z W' → ∀ (ad : Addr), (i + 1 < out.length → ad = ⟨g, i + 1, none⟩) → ∀ m u, ((out.drop (i + 1)).map (Value.int .i64 ·))[m]? = some u → W'.cell? (ad.add m) = some u) := Lib.hid (fun W' h ad hadd m u hi => by
                have hil : m < (out.drop (i + 1)).length := by have := (List.getElem?_eq_some_iff.1 hi).1; simpa using this
                rw [List.length_drop] at hil
                rw [hadd (by omega), addr_add, HGZ.out W' h (i + 1 + m) (by omega), ← hi, List.getElem?_map, List.getElem?_drop, List.getElem?_eq_getElem (by omega), List.getD_eq_getElem?_getD, List.getElem?_eq_getElem (by omega)]; rfl)
              have hlen := HLEN.out
              have hsrt := Lib.hid (insK_sorted (x := x) hS.out (show i + 1 ≤ out.length by omega) hX.out (.inr (by rw [show i + 1 - 1 = i by omega, HY.out]; omega)))
              have htk : (out.take (i + 1)).length = i + 1 := by rw [List.length_take]; omega
              have hjc : ((i + 1 : Nat) : Int) ≤ c := by omega
              have htn : ((i : Int) + 1 : Int).toNat = i + 1 := by omega
              by_cases hcj : c = i + 1
              · subst hcj
                go_wp2_with (at_builtin; (first
                  | (refine wpList_append_own _ rfl _ _ 22 rfl Z.heap.size 3 i0 (.int .i64 0) 1 8 Tryz.underlying22 hi0 hz0 hz1 hz2 rfl (by decide) _ _ _ rfl HOM.out ⟨g, 0, none⟩ (i + 1) (i + 1) ((out.take (i + 1)).map (Value.int .i64 ·)) rfl (by rw [List.length_map, htk, Nat.mul_one]) (HN1.out _ hY) one_ints (by unfold maxLen; omega) (by omega) (by simp) ?_; intro v6 w6 hown6 hgrow6 _; have HB6 : Below Z.heap.size Z w6 := hY.grown hgrow6 (by simp) (fun j e => (World.ownsRow.lt HOM.out j e).1); have x1 := HXZ.out w6 HB6)
                  | (refine wpList_append_own _ rfl _ _ 22 rfl Z.heap.size 3 i0 (.int .i64 0) 1 8 Tryz.underlying22 hi0 hz0 hz1 hz2 rfl (by decide) _ _ _ rfl (World.ownsRow.alloc hown6 _) ⟨w6.heap.size, 0, none⟩ 1 1 [.int .i64 x] rfl rfl (fun j u h => cell_one' _ _ _ j u h) (by simp [Value.oneCell']) (by unfold maxLen; omega) (by omega) (by have := HB6.size; simp; omega) ?_; intro v7 w7 hown7 hgrow7 _; have HB7 : Below Z.heap.size Z w7 := (HB6.alloc HB6.size _).grown hgrow7 (by have := HB6.size; simp; omega) (fun j e => (World.ownsRow.lt hown6 j e).1))
                  | (refine wpList_append_own _ rfl _ _ 22 rfl Z.heap.size 3 i0 (.int .i64 0) 1 8 Tryz.underlying22 hi0 hz0 hz1 hz2 rfl (by decide) _ _ _ rfl hown7 ⟨g, 0, none⟩ (out.length - (i + 1)) ((i + 1) - (i + 1)) ((out.drop (i + 1)).map (Value.int .i64 ·)) (by first | rfl | (simp [Act.eval, Act.put]; done) | (simp [Act.eval, Act.put]; omega)) (by simp) (HN3.out _ HB7 _ (fun h => absurd h (by omega))) one_ints (by unfold maxLen; omega) (by omega) HB7.size ?_; intro v8 w8 hown8 hgrow8 _; have HB8 : Below Z.heap.size Z w8 := HB7.grown hgrow8 HB7.size (fun j e => (World.ownsRow.lt hown7 j e).1))))
                have HB9 : Hid (Below w.heap.size w w8) := Lib.hid (HZB.out.trans (HB8.mono HZB.out.size))
                have HO9 : Hid (w8.ownsRow w.heap.size 3 1 v8 (insK out x (i + 1)).length ((insK out x (i + 1)).map (Value.int .i64 ·))) := Lib.hid (by
                  have e1 : (insK out x (i + 1)).length = 0 + (i + 1) + 1 + (out.length - (i + 1)) := by unfold insK; simp; omega
                  have e2 : (insK out x (i + 1)).map (Value.int .i64 ·) = [] ++ (out.take (i + 1)).map (Value.int .i64 ·) ++ [.int .i64 x] ++ (out.drop (i + 1)).map (Value.int .i64 ·) := by unfold insK; simp
                  rw [e1, e2]
                  exact own_base hown8 HZB.out.size)
                have HPF := Lib.hid (HPN.out _ (insK_perm out x (i + 1)))
                clear hgrow6 hgrow7 hgrow8 hown6 hown7 hown8 HB6 HB7 HB8 hY
                go_wp2_with fail
                go_roundw
                case rel => exact ⟨k + 1, insK out x (i + 1), by omega, by go_num, fun h => absurd h (by omega), HPF, hsrt, HB9, HO9⟩
                case measure => simp [intOf]; omega
              · go_wp2_with (at_builtin; (first
                  | (refine wpList_append_own _ rfl _ _ 22 rfl Z.heap.size 3 i0 (.int .i64 0) 1 8 Tryz.underlying22 hi0 hz0 hz1 hz2 rfl (by decide) _ _ _ rfl HOM.out ⟨g, 0, none⟩ (i + 1) c ((out.take (i + 1)).map (Value.int .i64 ·)) rfl (by rw [List.length_map, htk, Nat.mul_one]) (HN1.out _ hY) one_ints (by unfold maxLen; omega) (by omega) (by simp) ?_; intro v6 w6 hown6 hgrow6 _; have HB6 : Below Z.heap.size Z w6 := hY.grown hgrow6 (by simp) (fun j e => (World.ownsRow.lt HOM.out j e).1); have x1 := HXZ.out w6 HB6)
                  | (refine wpList_append_own _ rfl _ _ 22 rfl Z.heap.size 3 i0 (.int .i64 0) 1 8 Tryz.underlying22 hi0 hz0 hz1 hz2 rfl (by decide) _ _ _ rfl (World.ownsRow.alloc hown6 _) ⟨w6.heap.size, 0, none⟩ 1 1 [.int .i64 x] rfl rfl (fun j u h => cell_one' _ _ _ j u h) (by simp [Value.oneCell']) (by unfold maxLen; omega) (by omega) (by have := HB6.size; simp; omega) ?_; intro v7 w7 hown7 hgrow7 _; have HB7 : Below Z.heap.size Z w7 := (HB6.alloc HB6.size _).grown hgrow7 (by have := HB6.size; simp; omega) (fun j e => (World.ownsRow.lt hown6 j e).1))
                  | (refine wpList_append_own _ rfl _ _ 22 rfl Z.heap.size 3 i0 (.int .i64 0) 1 8 Tryz.underlying22 hi0 hz0 hz1 hz2 rfl (by decide) _ _ _ rfl hown7 ⟨g, i + 1, none⟩ (out.length - (i + 1)) (c - (i + 1)) ((out.drop (i + 1)).map (Value.int .i64 ·)) (by first | rfl | (simp [Act.eval, Act.put]; done) | (simp [Act.eval, Act.put]; omega)) (by simp) (HN3.out _ HB7 _ (fun _ => rfl)) one_ints (by unfold maxLen; omega) (by omega) HB7.size ?_; intro v8 w8 hown8 hgrow8 _; have HB8 : Below Z.heap.size Z w8 := HB7.grown hgrow8 HB7.size (fun j e => (World.ownsRow.lt hown7 j e).1))))
                have HB9 : Hid (Below w.heap.size w w8) := Lib.hid (HZB.out.trans (HB8.mono HZB.out.size))
                have HO9 : Hid (w8.ownsRow w.heap.size 3 1 v8 (insK out x (i + 1)).length ((insK out x (i + 1)).map (Value.int .i64 ·))) := Lib.hid (by
                  have e1 : (insK out x (i + 1)).length = 0 + (i + 1) + 1 + (out.length - (i + 1)) := by unfold insK; simp; omega
                  have e2 : (insK out x (i + 1)).map (Value.int .i64 ·) = [] ++ (out.take (i + 1)).map (Value.int .i64 ·) ++ [.int .i64 x] ++ (out.drop (i + 1)).map (Value.int .i64 ·) := by unfold insK; simp
                  rw [e1, e2]
                  exact own_base hown8 HZB.out.size)
                have HPF := Lib.hid (HPN.out _ (insK_perm out x (i + 1)))
                clear hgrow6 hgrow7 hgrow8 hown6 hown7 hown8 HB6 HB7 HB8 hY
                go_wp2_with fail
                go_roundw
                case rel => exact ⟨k + 1, insK out x (i + 1), by omega, by go_num, fun h => absurd h (by omega), HPF, hsrt, HB9, HO9⟩
                case measure => simp [intOf]; omega
          · obtain rfl : j = 0 := by omega
            go_wp2_with fail
            go_quiet (fail)
            obtain ⟨Z, hZ⟩ : ∃ Z, wr.drewN nq = Z := ⟨_, rfl⟩
            have HZB : Hid (Below w.heap.size w Z) := Lib.hid (by rw [← hZ]; exact below_drewN HBB.out _)
            have HGZ : Hid (∀ W', Below Z.heap.size Z W' → ∀ i, i < out.length → W'.cell? ⟨g, i, none⟩ = some (.int .i64 (out.getD i 0))) := Lib.hid (fun W' h => HGV.out W' (by
              have h2 := below_drewN hB2.out nq
              rw [hZ] at h2
              exact h2.trans (h.mono h2.size)))
            rw [hZ]
            clear hZ
            have hY := (Below.refl _ Z).alloc (Nat.le_refl Z.heap.size) (.cells #[] 3)
            have HXZ : Hid (∀ W', Below Z.heap.size Z W' → W'.cell? ⟨lb, lo + k, none⟩ = some (.int .i64 x)) := Lib.hid (fun W' h => HX0.out W' (HZB.out.trans (h.mono HZB.out.size)))
            have HOM : Hid ((Z.alloc (.cells #[] 3)).ownsRow Z.heap.size 3 1 (.slice (some ⟨Z.heap.size, 0, none⟩) 0 0) 0 []) := Lib.hid (World.ownsRow_made Z #[] 0 (Nat.le_refl _) (by unfold maxLen; omega) rfl)
            have HN1 : Hid (∀ W', Below Z.heap.size Z W' → ∀ m u, ((out.take (0)).map (Value.int .i64 ·))[m]? = some u → W'.cell? ((⟨g, 0, none⟩ : Addr).add m) = some u) := Lib.hid (fun W' h m u hi => by
              have hil : m < (out.take (0)).length := by have h3 := (List.getElem?_eq_some_iff.1 hi).1; simp at h3
              rw [List.length_take] at hil
              rw [addr_add, Nat.zero_add, HGZ.out W' h m (by omega), ← hi, List.getElem?_map, List.getElem?_take_of_lt (by omega), List.getElem?_eq_getElem (by omega), List.getD_eq_getElem?_getD, List.getElem?_eq_getElem (by omega)]; rfl)
            have HN3 : Hid (∀ W', Below Z.heap.size Z W' → ∀ (ad : Addr), (0 < out.length → ad = ⟨g, 0, none⟩) → ∀ m u, ((out.drop (0)).map (Value.int .i64 ·))[m]? = some u → W'.cell? (ad.add m) = some u) := Lib.hid (fun W' h ad hadd m u hi => by
              have hil : m < (out.drop (0)).length := by have := (List.getElem?_eq_some_iff.1 hi).1; simpa using this
              rw [List.length_drop] at hil
              rw [hadd (by omega), addr_add, HGZ.out W' h (0 + m) (by omega), ← hi, List.getElem?_map, List.getElem?_drop, List.getElem?_eq_getElem (by omega), List.getD_eq_getElem?_getD, List.getElem?_eq_getElem (by omega)]; rfl)
            have hlen := HLEN.out
            have hsrt := Lib.hid (insK_sorted (x := x) hS.out (show 0 ≤ out.length by omega) hX.out (.inl rfl))
            have htk : (out.take (0)).length = 0 := by rw [List.length_take]; omega
            have hjc : ((0 : Nat) : Int) ≤ c := by omega
            have htn : ((0 : Int) : Int).toNat = 0 := by omega
            by_cases hcj : c = 0
            · exfalso
              have := HK1.out
              omega
            · go_wp2_with (at_builtin; (first
                | (refine wpList_append_own _ rfl _ _ 22 rfl Z.heap.size 3 i0 (.int .i64 0) 1 8 Tryz.underlying22 hi0 hz0 hz1 hz2 rfl (by decide) _ _ _ rfl HOM.out ⟨g, 0, none⟩ (0) c ((out.take (0)).map (Value.int .i64 ·)) rfl (by rw [List.length_map, htk, Nat.mul_one]) (HN1.out _ hY) one_ints (by unfold maxLen; omega) (by omega) (by simp) ?_; intro v6 w6 hown6 hgrow6 _; have HB6 : Below Z.heap.size Z w6 := hY.grown hgrow6 (by simp) (fun j e => (World.ownsRow.lt HOM.out j e).1); have x1 := HXZ.out w6 HB6)
                | (refine wpList_append_own _ rfl _ _ 22 rfl Z.heap.size 3 i0 (.int .i64 0) 1 8 Tryz.underlying22 hi0 hz0 hz1 hz2 rfl (by decide) _ _ _ rfl (World.ownsRow.alloc hown6 _) ⟨w6.heap.size, 0, none⟩ 1 1 [.int .i64 x] rfl rfl (fun j u h => cell_one' _ _ _ j u h) (by simp [Value.oneCell']) (by unfold maxLen; omega) (by omega) (by have := HB6.size; simp; omega) ?_; intro v7 w7 hown7 hgrow7 _; have HB7 : Below Z.heap.size Z w7 := (HB6.alloc HB6.size _).grown hgrow7 (by have := HB6.size; simp; omega) (fun j e => (World.ownsRow.lt hown6 j e).1))
                | (refine wpList_append_own _ rfl _ _ 22 rfl Z.heap.size 3 i0 (.int .i64 0) 1 8 Tryz.underlying22 hi0 hz0 hz1 hz2 rfl (by decide) _ _ _ rfl hown7 ⟨g, 0, none⟩ (out.length - (0)) (c - (0)) ((out.drop (0)).map (Value.int .i64 ·)) (by first | rfl | (simp [Act.eval, Act.put]; done) | (simp [Act.eval, Act.put]; omega)) (by simp) (HN3.out _ HB7 _ (fun _ => rfl)) one_ints (by unfold maxLen; omega) (by omega) HB7.size ?_; intro v8 w8 hown8 hgrow8 _; have HB8 : Below Z.heap.size Z w8 := HB7.grown hgrow8 HB7.size (fun j e => (World.ownsRow.lt hown7 j e).1))))
              have HB9 : Hid (Below w.heap.size w w8) := Lib.hid (HZB.out.trans (HB8.mono HZB.out.size))
              have HO9 : Hid (w8.ownsRow w.heap.size 3 1 v8 (insK out x (0)).length ((insK out x (0)).map (Value.int .i64 ·))) := Lib.hid (by
                have e1 : (insK out x (0)).length = 0 + (0) + 1 + (out.length - (0)) := by unfold insK; simp; omega
                have e2 : (insK out x (0)).map (Value.int .i64 ·) = [] ++ (out.take (0)).map (Value.int .i64 ·) ++ [.int .i64 x] ++ (out.drop (0)).map (Value.int .i64 ·) := by unfold insK; simp
                rw [e1, e2]
                exact own_base hown8 HZB.out.size)
              have HPF := Lib.hid (HPN.out _ (insK_perm out x (0)))
              clear hgrow6 hgrow7 hgrow8 hown6 hown7 hown8 HB6 HB7 HB8 hY
              go_wp2_with fail
              go_roundw
              case rel => exact ⟨k + 1, insK out x (0), by omega, by go_num, fun h => absurd h (by omega), HPF, hsrt, HB9, HO9⟩
              case measure => simp [intOf]; omega
    · obtain rfl : k = l.length := by omega
      clear hKN
      go_wp2_with fail
      go_ret
      exact ⟨_, out, rfl, hB.out, hO.out, by have := hP.out; rwa [List.take_length] at this, hS.out⟩
end Go.Proofs.YtnacgogcbbpjmaaGreat

/-! The reference's Links. -/
set_option linter.unusedVariables false
set_option linter.unusedSimpArgs false
namespace Go.Proofs.YtnacgogcbbpjmaaGreat
open Go Go.RowKit
attribute [local go_sem] Oper.semAt_some

theorem ord_exists {T : List Tw} (hk : (T.map Tw.id).Nodup) : ∃ L, Ord L T := by
  refine ⟨T.mergeSort (fun s t => decide (s.id ≤ t.id)), List.mergeSort_perm _ _, ?_⟩
  have h1 := List.pairwise_mergeSort (le := fun s t : Tw => decide (s.id ≤ t.id)) (fun a b c h1 h2 => by simp at *; omega) (fun a b => by simp; omega) T
  have h2 : ((T.mergeSort (fun s t => decide (s.id ≤ t.id))).map Tw.id).Nodup := ((List.mergeSort_perm T (fun s t => decide (s.id ≤ t.id))).map Tw.id).nodup_iff.2 hk
  rw [List.nodup_iff_pairwise_ne, List.pairwise_map] at h2
  exact (h1.and h2).imp fun {s t} h => by have h3 := h.1; have h4 := h.2; simp at h3; omega
theorem rise_ids {T L : List Tw} {out : List Int} (hp : out.Perm (T.map Tw.id)) (hs : out.Pairwise (· ≤ ·)) (hL : Ord L T) (hk : (T.map Tw.id).Nodup) : out = L.map Tw.id := by
  have hn : out.Nodup := hp.nodup_iff.2 hk
  rw [List.nodup_iff_pairwise_ne] at hn
  have h1 : out.Pairwise (· < ·) := (hs.and hn).imp fun {s t} h => by have h3 := h.1; have h4 := h.2; omega
  have h2 : (L.map Tw.id).Pairwise (· < ·) := by rw [List.pairwise_map]; exact hL.2
  exact pw_ext (fun x y h => by omega) h1 h2 (fun x => by rw [hp.mem_iff, (hL.1.map Tw.id).mem_iff])
theorem ord_unique {T L M : List Tw} (hL : Ord L T) (hM : Ord M T) : L = M :=
  pw_ext (fun x y h => by omega) hL.2 hM.2 (fun x => by rw [hL.1.mem_iff, hM.1.mem_iff])
theorem twI_mem {T : List Tw} {t : Tw} (ht : t ∈ T) (hk : (T.map Tw.id).Nodup) : ∃ n : Nat, twI T t.id = n ∧ n < T.length ∧ T.getD n .nil = t := by
  rcases twI_cases T t.id with ⟨k, h1, h2, h3, h4⟩ | ⟨h1, _⟩
  · refine ⟨k, h4, h1, ?_⟩
    obtain ⟨j, hj, rfl⟩ := List.getElem_of_mem ht
    rw [getD_tw h1] at h2 ⊢
    have := (List.nodup_iff_pairwise_ne.1 hk)
    have e : k = j := by
      refine (List.getElem_inj (h₀ := by simpa using h1) (h₁ := by simpa using hj) hk).1 ?_
      simpa using h2
    subst e; rfl
  · obtain ⟨j, hj, rfl⟩ := List.getElem_of_mem ht
    exact absurd (by rw [getD_tw hj]) (h1 j hj)
/-- The worlds in the head of a region in which one operation makes a cell. -/
def oneIn (j : Nat) (W0 : World) (ob : Obj) (listed : Array Bool) (w : World) : Prop :=
  Below W0.heap.size W0 w ∧ (listed.getD j false = false → w.heap.size = W0.heap.size) ∧ (listed.getD j false = true → w.heap[W0.heap.size]? = some ob ∧ W0.heap.size < w.heap.size)
theorem turnS_step {P : Program} {ops : Array Oper} {md : Region.Mode} {n j : Nat} {W0 : World} {ob : Obj} {Q : Act → Prop} {o : Oper} {rest : List Oper} {k : Nat} {a : Act} {v : Value} (hkj : k ≠ j) (hw : Region.wanted o (yielded ops a.tmps) = true)
    (h1 : ∀ w', Below W0.heap.size W0 w' → ∀ C' : World → Prop, C' w' → TurnUpon P C' v ((execOp a.eval o).run P w')) (h2 : wpTurn P ops md n (oneIn j W0 ob) Q rest (k + 1) (a.put o.dst v)) :
    wpTurn P ops md n (oneIn j W0 ob) Q (o :: rest) k a :=
  ⟨v, .inl ⟨hw, fun listed w _ _ hC => h1 w hC.1 _ (by unfold oneIn at *; rw [getD_set_ne _ hkj]; exact hC)⟩, h2⟩
theorem turnS_alloc {P : Program} {ops : Array Oper} {md : Region.Mode} {n : Nat} {W0 : World} {ob : Obj} {Q : Act → Prop} {o : Oper} {rest : List Oper} {k : Nat} {a : Act} {v : Value} (hw : Region.wanted o (yielded ops a.tmps) = true)
    (h1 : ∀ w', w'.heap.size = W0.heap.size → Below W0.heap.size W0 w' → ∀ C' : World → Prop, C' (w'.alloc ob) → TurnUpon P C' v ((execOp a.eval o).run P w')) (h2 : wpTurn P ops md n (oneIn k W0 ob) Q rest (k + 1) (a.put o.dst v)) :
    wpTurn P ops md n (oneIn k W0 ob) Q (o :: rest) k a :=
  ⟨v, .inl ⟨hw, fun listed w inv hr hC => by
    have hu0 := (mem_ready.1 hr).1
    have hs := hC.2.1 (getD_both hu0)
    refine h1 w hs hC.1 _ ⟨hC.1.alloc hC.1.size ob, fun h => ?_, fun _ => ⟨?_, ?_⟩⟩
    · have hk : k < listed.size := Nat.lt_of_not_le fun h' => by simp [Array.getElem?_eq_none h'] at hu0
      simp [hk] at h
    · exact gAt w ob _ hs.symm
    · rw [← hs]; simp⟩, h2⟩
theorem two_at {w : World} {b : Nat} {x y : Value} {t : TypeId} {f : Nat × Nat} (h : w.heap[b]? = some (.cells #[x, y] t f)) (j : Nat) (u : Value) (hu : [x, y][j]? = some u) : w.cell? ((⟨b, 0, none⟩ : Addr).add j) = some u := by
  have e : (⟨b, 0, none⟩ : Addr).add j = ⟨b, j, none⟩ := by unfold Addr.add; split <;> simp_all
  rw [e, cellH h]
  simpa using hu
def LkA (w W1 : World) (wd hg ti tx ty th ui ux uy uh : Int) (oa ha : Option Addr) (gn oc tn tc hn hc ib io ic ln k jn ix iy tb tf : Nat) (u7 u10 u11 u22 u23 u24 u25 u26 u27 u28 u29 u30 u31 u32 u5 u39 u40 u47 u48 u49 u50 u51 u52 u53 u54 u55 u56 u57 u58 u59 u60 u61 u62 u63 u64 u65 u66 u67 u68 u69 u70 u71 u72 u73 u74 u75 u76 u77 u78 u79 u80 u81 u82 u83 u84 u85 u86 u87 u88 : Value) (listed : Array Bool) (a : Act) (w' : World) : Prop := ∃ (l0 l1 l2 l3 l4 l5 l6 l7 l8 l9 l10 l11 : Bool) (A : Nat), listed = #[l0, l1, l2, l3, l4, l5, l6, l7, l8, l9, l10, l11] ∧ a = { tmps := #[.agg #[.int .i64 wd, .int .i64 hg, .slice oa gn oc, .slice (some ⟨tb, tf, none⟩) tn tc, .slice ha hn hc], .pointer (some ⟨w.heap.size, 0, none⟩), .slice none 0 0, .int .i64 0, .int .i64 0, .slice (some ⟨ib, io, none⟩) ln ic, .int .i64 tn, u7, .int .i64 k, .int .i64 jn, pickIf l10 (.pointer (some ⟨A, 0, none⟩)) u10, u11, .agg #[.int .i64 wd, .int .i64 hg, .slice oa gn oc, .slice (some ⟨tb, tf, none⟩) tn tc, .slice ha hn hc], .int .i64 0, .int .i64 0, .bool false, undef, .int .i64 tn, .pointer (some ⟨w.heap.size, 3, none⟩), .slice (some ⟨tb, tf, none⟩) tn tc, .int .i64 tn, .bool false, u22, u23, u24, u25, u26, u27, u28, u29, u30, u31, u32, u5, .slice (some ⟨ib, io, none⟩) ln ic, .int .i64 k, .slice (some ⟨ib, io, none⟩) ln ic, .int .i64 ln, .bool true, u39, u40, .int .i64 k, .int .i64 ((k : Int) + 1), .int .i64 jn, .slice (some ⟨ib, io, none⟩) ln ic, .int .i64 ln, .bool true, u47, u48, pickIf l0 (.pointer (some ⟨w.heap.size, 3, none⟩)) u49, pickIf l1 (.slice (some ⟨tb, tf, none⟩) tn tc) u50, pickIf l2 (.agg #[.int .i64 wd, .int .i64 hg, .slice oa gn oc, .slice (some ⟨tb, tf, none⟩) tn tc, .slice ha hn hc]) u51, pickIf l3 (.slice (some ⟨ib, io, none⟩) ln ic) u52, pickIf l4 (.int .i64 k) u53, pickIf l5 (.pointer (some ⟨ib, io + k, none⟩)) u54, pickIf l6 (.int .i64 ti) u55, pickIf l7 (.int .i64 ix) u56, pickIf l8 (.pointer (some ⟨tb, tf + ix * 4, none⟩)) u57, pickIf l9 (.agg #[.int .i64 ti, .int .i64 tx, .int .i64 ty, .int .i64 th]) u58, u59, u60, u61, u62, u63, u64, u65, u66, u67, u68, u69, u70, u71, u72, u73, u74, u75, u76, u77, u78, u79, u80, u81, u82, u83, u84, u85, u86, u87, u88, undef], defers := [] } ∧ Below W1.heap.size W1 w' ∧ (l10 = true → W1.heap.size ≤ A ∧ w'.heap[A]? = some (.cells #[.int .i64 (if l11 = true then ti else 0), .int .i64 (if l11 = true then tx else 0), .int .i64 (if l11 = true then ty else 0), .int .i64 (if l11 = true then th else 0)] 67 (0, 0))) ∧ (l11 = true → l10 = true)
def LkB (w W1 : World) (wd hg ti tx ty th ui ux uy uh : Int) (oa ha : Option Addr) (gn oc tn tc hn hc ib io ic ln k jn ix iy tb tf A : Nat) (u7 u10 u11 u22 u23 u24 u25 u26 u27 u28 u29 u30 u31 u32 u5 u39 u40 u47 u48 u49 u50 u51 u52 u53 u54 u55 u56 u57 u58 u59 u60 u61 u62 u63 u64 u65 u66 u67 u68 u69 u70 u71 u72 u73 u74 u75 u76 u77 u78 u79 u80 u81 u82 u83 u84 u85 u86 u87 u88 : Value) (listed : Array Bool) (a : Act) (w' : World) : Prop := ∃ (l0 l1 l2 l3 l4 l5 l6 l7 l8 l9 l10 l11 : Bool) (B : Nat), listed = #[l0, l1, l2, l3, l4, l5, l6, l7, l8, l9, l10, l11] ∧ a = { tmps := #[.agg #[.int .i64 wd, .int .i64 hg, .slice oa gn oc, .slice (some ⟨tb, tf, none⟩) tn tc, .slice ha hn hc], .pointer (some ⟨w.heap.size, 0, none⟩), .slice none 0 0, .int .i64 0, .int .i64 0, .slice (some ⟨ib, io, none⟩) ln ic, .int .i64 tn, u7, .int .i64 k, .int .i64 jn, .pointer (some ⟨A, 0, none⟩), pickIf l10 (.pointer (some ⟨B, 0, none⟩)) u11, .agg #[.int .i64 wd, .int .i64 hg, .slice oa gn oc, .slice (some ⟨tb, tf, none⟩) tn tc, .slice ha hn hc], .int .i64 0, .int .i64 0, .bool false, undef, .int .i64 tn, .pointer (some ⟨w.heap.size, 3, none⟩), .slice (some ⟨tb, tf, none⟩) tn tc, .int .i64 tn, .bool false, u22, u23, u24, u25, u26, u27, u28, u29, u30, u31, u32, u5, .slice (some ⟨ib, io, none⟩) ln ic, .int .i64 k, .slice (some ⟨ib, io, none⟩) ln ic, .int .i64 ln, .bool true, u39, u40, .int .i64 k, .int .i64 ((k : Int) + 1), .int .i64 jn, .slice (some ⟨ib, io, none⟩) ln ic, .int .i64 ln, .bool true, u47, u48, .pointer (some ⟨w.heap.size, 3, none⟩), .slice (some ⟨tb, tf, none⟩) tn tc, .agg #[.int .i64 wd, .int .i64 hg, .slice oa gn oc, .slice (some ⟨tb, tf, none⟩) tn tc, .slice ha hn hc], .slice (some ⟨ib, io, none⟩) ln ic, .int .i64 k, .pointer (some ⟨ib, io + k, none⟩), .int .i64 ti, .int .i64 ix, .pointer (some ⟨tb, tf + ix * 4, none⟩), .agg #[.int .i64 ti, .int .i64 tx, .int .i64 ty, .int .i64 th], pickIf l0 (.pointer (some ⟨w.heap.size, 3, none⟩)) u59, pickIf l1 (.slice (some ⟨tb, tf, none⟩) tn tc) u60, pickIf l2 (.agg #[.int .i64 wd, .int .i64 hg, .slice oa gn oc, .slice (some ⟨tb, tf, none⟩) tn tc, .slice ha hn hc]) u61, pickIf l3 (.slice (some ⟨ib, io, none⟩) ln ic) u62, pickIf l4 (.int .i64 jn) u63, pickIf l5 (.pointer (some ⟨ib, io + jn, none⟩)) u64, pickIf l6 (.int .i64 ui) u65, pickIf l7 (.int .i64 iy) u66, pickIf l8 (.pointer (some ⟨tb, tf + iy * 4, none⟩)) u67, pickIf l9 (.agg #[.int .i64 ui, .int .i64 ux, .int .i64 uy, .int .i64 uh]) u68, u69, u70, u71, u72, u73, u74, u75, u76, u77, u78, u79, u80, u81, u82, u83, u84, u85, u86, u87, u88, undef], defers := [] } ∧ Below W1.heap.size W1 w' ∧ (l10 = true → W1.heap.size ≤ B ∧ w'.heap[B]? = some (.cells #[.int .i64 (if l11 = true then ui else 0), .int .i64 (if l11 = true then ux else 0), .int .i64 (if l11 = true then uy else 0), .int .i64 (if l11 = true then uh else 0)] 67 (0, 0))) ∧ (l11 = true → l10 = true)
end Go.Proofs.YtnacgogcbbpjmaaGreat

/-! RidgeLinks: Links answers as the reference does. -/
set_option linter.unusedVariables false
set_option linter.unusedSimpArgs false
namespace Go.Proofs.YtnacgogcbbpjmaaGreat
open Go Go.RowKit

theorem two_in (x y : Int) (w : World) : (Op.equalIn 10000 75 (.agg #[.int .i64 x, .int .i64 y]) (.agg #[.int .i64 x, .int .i64 y])).run Tryz.prog w = .ok true w := by
  obtain ⟨i0, hi0, hz0, hz1, hz2⟩ := info_parts info_in
  have hu : Tryz.prog.underlying 75 = some (.array 2 3) := by kernel_rfl
  have hui : Tryz.prog.underlying 3 = some (.int .i64) := by kernel_rfl
  have hc : Tryz.prog.cellsOf 3 = 1 := by kernel_rfl
  have p0 : (part 3 #[.int .i64 x, .int .i64 y] 0).run Tryz.prog w = .ok (.int .i64 x) w := by kernel_rfl
  have p1 : (part 3 #[.int .i64 x, .int .i64 y] 1).run Tryz.prog w = .ok (.int .i64 y) w := by kernel_rfl
  have e1 : ∀ z : Int, (Op.equalIn 9999 3 (.int .i64 z) (.int .i64 z)).run Tryz.prog w = .ok true w := fun z => by
    have h := run_equalIn_int (P := Tryz.prog) w 9998 3 .i64 .i64 z z hui
    simpa using h
  have h := run_equalIn_array (P := Tryz.prog) w 9999 #[.int .i64 x, .int .i64 y] #[.int .i64 x, .int .i64 y] hu hi0
  rw [show (10000 : Nat) = 9999 + 1 from rfl, h, hc, show List.range 2 = [0, 1] from rfl]
  simp only [Op.eqItems, Sem.run_bind, Nat.zero_mul, Nat.one_mul, p0, p1, e1, Result.andThen_ok, Bool.not_true, Bool.false_eq_true, if_false, Sem.run_pure]
theorem two_ne (x y : Int) (w : World) : (binOp .neq 75 (.agg #[.int .i64 x, .int .i64 y]) (.agg #[.int .i64 x, .int .i64 y])).run Tryz.prog w = .ok (.bool false) w := by
  rw [run_neq_struct, two_in]; rfl
theorem PlRow.of_pairs {w : World} {base : Nat} {v : Value} {l : List Pl} (h : w.ownsRow base 75 2 v l.length (l.flatMap encI2)) : PlRow w v l := by
  rcases h.2 with ⟨h1, h2⟩ | ⟨nb, nc, cur, e1, e2, e3, e4, e5, e6, e7⟩
  · have : l = [] := List.eq_nil_of_length_eq_zero h2
    subst this
    exact .inl ⟨none, 0, h1, rfl⟩
  · refine .inr ⟨nb, 0, nc, e1, by omega, (Array.getElem?_eq_some_iff.1 e3).1, fun i hi => ?_⟩
    have hl := flatP_len l
    obtain ⟨g1, g2⟩ := flatP_get l i hi
    have h7 : cur.toList.take (l.length * 2) = l.flatMap encP := by
      have h8 : cur.toList.take (l.length * 2) = l.flatMap encI2 := by simpa using e7
      exact h8
    rw [← h7] at g1 g2
    rw [List.getElem?_take_of_lt (by omega), Array.getElem?_toList] at g1 g2
    rw [cellH e3, cellH e3, Nat.zero_add]
    exact ⟨g1, g2⟩
theorem lkP_len (g : List Int) (wd : Int) : ∀ L : List Tw, L.length ≤ 12 → (lkP g wd L).length ≤ 12 * L.length
  | [], _ => by simp [lkP]
  | s :: L, h => by
    have h1 := seenL_len g wd s L
    rw [List.length_cons] at h
    have h2 := lkP_len g wd L (by omega)
    rw [lkP, List.length_append, List.length_cons]
    omega
/-- The links of a country without a fault. -/
theorem lk_pairs (wd hg : Int) (g : List Int) (T : List Tw) (H : List Hz) : ∃ P : List Pl, P.length ≤ 1000000 ∧ (ckE wd hg g T H ≠ 0 → P = []) ∧ (ckE wd hg g T H = 0 → ∀ L, Ord L T → lkP g wd L = P) := by
  by_cases hE : ckE wd hg g T H = 0
  · obtain ⟨hm, hn, _, hok, hnd, _⟩ := ckE_ok hE
    obtain ⟨L, hL⟩ := ord_exists hnd
    have h1 := hL.1.length_eq
    have h2 := lkP_len g wd L (by omega)
    exact ⟨lkP g wd L, by omega, fun h => absurd hE h, fun _ M hM => by rw [ord_unique hM hL]⟩
  · exact ⟨[], by simp, fun _ => rfl, fun h => absurd h hE⟩
theorem lk_row {w w' : World} {v : Value} {wd hg : Int} {g : List Int} {T : List Tw} {H : List Hz} {P : List Pl} (hP0 : ckE wd hg g T H ≠ 0 → P = []) (hP1 : ckE wd hg g T H = 0 → ∀ L, Ord L T → lkP g wd L = P)
    (h1 : ckE wd hg g T H ≠ 0 → v = .slice none 0 0) (h2 : ckE wd hg g T H = 0 → ∃ L, Ord L T ∧ w'.ownsRow w.heap.size 75 2 v (lkP g wd L).length ((lkP g wd L).flatMap encI2)) : PlRow w' v P := by
  by_cases hE : ckE wd hg g T H = 0
  · obtain ⟨L, hL, h3⟩ := h2 hE
    rw [hP1 hE L hL] at h3
    exact PlRow.of_pairs h3
  · rw [hP0 hE, h1 hE]; exact .inl ⟨_, _, rfl, rfl⟩
end Go.Proofs.YtnacgogcbbpjmaaGreat
