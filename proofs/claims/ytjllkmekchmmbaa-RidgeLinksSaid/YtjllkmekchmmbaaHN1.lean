/- The reference's rising: a list of numbers in increasing order. -/
import Derived.Test.YtjllkmekchmmbaaHC1
import Derived.Test.YtjllkmekchmmbaaHJ0
import Derived.Test.YtjllkmekchmmbaaHD3
import Derived.Test.YtjllkmekchmmbaaHM5
import Derived.Test.YtjllkmekchmmbaaHC2
import Derived.Test.YtjllkmekchmmbaaHL3
import Derived.ChangeKeysEq
set_option linter.unusedVariables false
set_option linter.unusedSimpArgs false
namespace Go.Proofs.Ytjllkmekchmmbaa
open Go Go.RowKit

/-- A number laid into a list. -/
def insK (out : List Int) (x : Int) (k : Nat) : List Int := out.take k ++ x :: out.drop k
theorem insK_perm (out : List Int) (x : Int) (k : Nat) : (insK out x k).Perm (x :: out) := by
  unfold insK
  have h := List.perm_middle (a := x) (l₁ := out.take k) (l₂ := out.drop k)
  rwa [List.take_append_drop] at h
theorem ge_at {out : List Int} (hs : out.Pairwise (· ≤ ·)) {i j : Nat} (hij : i ≤ j) (hj : j < out.length) : out.getD i 0 ≤ out.getD j 0 := by
  rcases Nat.lt_or_ge i j with h | h
  · rw [List.getD_eq_getElem?_getD, List.getD_eq_getElem?_getD, List.getElem?_eq_getElem (by omega), List.getElem?_eq_getElem hj]
    exact List.pairwise_iff_getElem.1 hs i j (by omega) hj h
  · obtain rfl : i = j := by omega
    exact Int.le_refl _
theorem insK_sorted {out : List Int} {x : Int} {k : Nat} (hs : out.Pairwise (· ≤ ·)) (hk : k ≤ out.length) (h1 : ∀ m, k ≤ m → m < out.length → x < out.getD m 0) (h2 : k = 0 ∨ out.getD (k - 1) 0 ≤ x) : (insK out x k).Pairwise (· ≤ ·) := by
  unfold insK
  have hd : ∀ b ∈ out.drop k, x ≤ b := fun b hb => by
    obtain ⟨i, hi, rfl⟩ := List.getElem_of_mem hb
    rw [List.getElem_drop]
    have hl : k + i < out.length := by rw [List.length_drop] at hi; omega
    have := h1 (k + i) (by omega) hl
    rw [List.getD_eq_getElem?_getD, List.getElem?_eq_getElem hl] at this
    exact Int.le_of_lt this
  have ht : ∀ a ∈ out.take k, a ≤ x := fun a ha => by
    obtain ⟨i, hi, rfl⟩ := List.getElem_of_mem ha
    rw [List.getElem_take]
    have hl : i < k := by rw [List.length_take] at hi; omega
    rcases h2 with h2 | h2
    · omega
    · have h3 := ge_at hs (show i ≤ k - 1 by omega) (by omega)
      have h4 : out.getD i 0 = out[i]'(by omega) := by rw [List.getD_eq_getElem?_getD, List.getElem?_eq_getElem (by omega)]; rfl
      rw [h4] at h3
      omega
  have hp := hs
  rw [← List.take_append_drop k out, List.pairwise_append] at hp
  rw [List.pairwise_append, List.pairwise_cons]
  refine ⟨hp.1, ⟨hd, hp.2.1⟩, fun a ha b hb => ?_⟩
  rcases List.mem_cons.1 hb with rfl | hb
  · exact ht a ha
  · exact hp.2.2 a ha b hb
theorem own_ints {w : World} {base : Nat} {v : Value} {l : List Int} (h : w.ownsRow base 3 1 v l.length (l.map (Value.int .i64 ·))) :
    (v = .slice none 0 0 ∧ l = []) ∨ ∃ g c, v = .slice (some ⟨g, 0, none⟩) l.length c ∧ l.length ≤ c ∧ base ≤ g ∧ g < w.heap.size ∧ ∀ i, i < l.length → w.cell? ⟨g, i, none⟩ = some (.int .i64 (l.getD i 0)) := by
  rcases h.2 with ⟨h1, h2⟩ | ⟨nb, nc, cur, e1, e2, e3, e4, e5, e6, e7⟩
  · exact .inl ⟨h1, List.eq_nil_of_length_eq_zero h2⟩
  · refine .inr ⟨nb, nc, e1, by omega, e2, (Array.getElem?_eq_some_iff.1 e3).1, fun i hi => ?_⟩
    have h7 : cur.toList.take l.length = l.map (Value.int .i64 ·) := by simpa using e7
    have g1 : (l.map (Value.int .i64 ·))[i]? = some (.int .i64 (l.getD i 0)) := by
      rw [List.getElem?_map, List.getElem?_eq_getElem hi, List.getD_eq_getElem?_getD, List.getElem?_eq_getElem hi]; rfl
    rw [← h7, List.getElem?_take_of_lt hi, Array.getElem?_toList] at g1
    rw [cellH e3]; exact g1
theorem own_pos {w : World} {base : Nat} {v : Value} {n : Nat} {xs : List Value} (h : w.ownsRow base 3 1 v n xs) (hn : 0 < n) : ∃ g c, v = .slice (some ⟨g, 0, none⟩) n c ∧ n ≤ c ∧ base ≤ g := by
  rcases h.2 with ⟨_, h2⟩ | ⟨nb, nc, cur, e1, e2, e3, e4, e5, e6, e7⟩
  · omega
  · exact ⟨nb, nc, e1, by omega, e2⟩
set_option maxRecDepth 100000 in
set_option maxHeartbeats 8000000 in
theorem rising_any (v : Value) (l : List Int) (w : World) (hv : INRow w v l) (hl : l.length ≤ 1000) :
    Calls Try.prog 64 #[v] w fun e w' => ∃ (v' : Value) (out : List Int), e = .returned v' ∧ Below w.heap.size w w' ∧ w'.ownsRow w.heap.size 3 1 v' out.length (out.map (Value.int .i64 ·)) ∧ out.Perm l ∧ out.Pairwise (· ≤ ·) := by
  obtain ⟨la, lc, rfl, hlc⟩ := hv.form
  have HLC := Lib.hid hlc
  clear hlc hv
  obtain ⟨i0, hi0, hz0, hz1, hz2⟩ := info_parts info_in
  go_enter Try.func64, Try.ntmps64
  go_wp2_with fail
  go_loopw [3, 4] (fun v i wr => ∃ (k : Nat) (out : List Int), k ≤ l.length ∧ i = .int .i64 k ∧ (k = 0 → v = .slice none 0 0) ∧ Hid (out.Perm (l.take k)) ∧ Hid (out.Pairwise (· ≤ ·)) ∧ Hid (Below w.heap.size w wr) ∧ Hid (wr.ownsRow w.heap.size 3 1 v out.length (out.map (Value.int .i64 ·)))) (fun _ i _ => l.length - (intOf i).toNat)
  case atStart => exact ⟨0, [], Nat.zero_le _, rfl, fun _ => rfl, Lib.hid (by simp), Lib.hid List.Pairwise.nil, Lib.hid (Below.refl _ _), Lib.hid (World.ownsRow_nil _ _ _ _)⟩
  case round =>
    obtain ⟨k, out, hk, rfl, hKN, hP, hS, hB, hO⟩ := hrel
    by_cases hkl : k < l.length
    · obtain ⟨lb, lo, rfl, hlb, c0⟩ := HLC.out k hkl
      have hki : (k : Int) < l.length := by omega
      have hk0 : (0 : Int) ≤ k := by omega
      have HPN : Hid (∀ o' : List Int, o'.Perm (l.getD k 0 :: out) → o'.Perm (l.take (k + 1))) := Lib.hid (fun o' h => by
        refine h.trans ?_
        rw [List.take_succ_eq_append_getElem hkl]
        refine (List.Perm.cons _ hP.out).trans ?_
        have e : l.getD k 0 = l[k] := by rw [List.getD_eq_getElem?_getD, List.getElem?_eq_getElem hkl]; rfl
        rw [e]
        exact (List.perm_append_singleton _ _).symm)
      have HOL : Hid (out.length = k) := Lib.hid (by have := hP.out.length_eq; rw [List.length_take] at this; omega)
      obtain ⟨x, hx⟩ : ∃ x, l.getD k 0 = x := ⟨_, rfl⟩
      rw [hx] at c0 HPN
      have HX0 : Hid (∀ W', Below w.heap.size w W' → W'.cell? ⟨lb, lo + k, none⟩ = some (.int .i64 x)) := Lib.hid (fun W' h => (h.cell (p := ⟨lb, _, none⟩) hlb).trans c0)
      clear hx c0 hlb
      rcases own_ints hO.out with ⟨rfl, rfl⟩ | ⟨g, c, rfl, hgc, hgb, hgs, hgv⟩
      · clear hKN
        have hk00 : k = 0 := by have := HOL.out; simpa using this.symm
        subst hk00
        simp only [List.length_nil, Nat.add_zero] at HX0 hO ⊢
        clear HOL
        go_wp2_with fail
        go_loopw [5] (fun t wr => t = .int .i64 0 ∧ Hid (Below w.heap.size w wr)) (fun t _ => 0)
        case atStart => exact ⟨rfl, hB⟩
        case round =>
          clear hO hB
          obtain ⟨rfl, hB⟩ := hrel
          go_wp2_with fail
          go_quiet (fail)
          obtain ⟨Z, hZ⟩ : ∃ Z, wr.drewN nq = Z := ⟨_, rfl⟩
          have hzb : Below w.heap.size w Z := by rw [← hZ]; exact below_drewN hB.out _
          have HZB := Lib.hid hzb
          rw [hZ]
          clear hZ
          have hY := (Below.refl _ Z).alloc (Nat.le_refl Z.heap.size) (.cells #[] 3)
          have x0 := HX0.out _ (hzb.trans (hY.mono hzb.size))
          have HOM : Hid ((Z.alloc (.cells #[] 3)).ownsRow Z.heap.size 3 1 (.slice (some ⟨Z.heap.size, 0, none⟩) 0 0) 0 []) := Lib.hid (World.ownsRow_made Z #[] 0 (Nat.le_refl _) (by unfold maxLen; omega) rfl)
          have HYB := Lib.hid hY
          clear hY hzb
          go_wp2_with (at_builtin; refine wpList_append_own _ rfl _ _ 22 rfl Z.heap.size 3 i0 (.int .i64 0) 1 8 Try.underlying22 hi0 hz0 hz1 hz2 rfl (by decide) _ _ _ rfl (World.ownsRow.alloc HOM.out _) ⟨Z.heap.size + 1, 0, none⟩ 1 1 [.int .i64 x] rfl rfl (fun j u h => by have h3 := cell_one' (Z.alloc (.cells #[] 3)) _ 3 j u h; simpa using h3) (by simp [Value.oneCell']) (by unfold maxLen; omega) (by omega) (by simp; omega) ?_; intro v' w7 hown' hgrow _; obtain ⟨g9, c9, rfl, hc9, hg9⟩ := own_pos hown' (by omega); simp only [Nat.zero_add, List.nil_append] at hown' hc9 ⊢)
          have HB7 : Hid (Below w.heap.size w w7) := Lib.hid (((HZB.out.alloc HZB.out.size (.cells #[] 3)).alloc (by have := HZB.out.size; simp; omega) (.cells #[.int .i64 x] 3)).grown hgrow (by have := HZB.out.size; simp; omega) (fun j e => Nat.le_trans HZB.out.size (World.ownsRow.lt HOM.out j e).1))
          refine ⟨⟨1, [x], by omega, rfl, fun h => absurd h (by decide), Lib.hid (HPN.out [x] (List.Perm.refl _)), Lib.hid (by simp), HB7, Lib.hid (own_base hown' HZB.out.size)⟩, ?_⟩
          simp [intOf]; omega
      · have HGV : Hid (∀ W', Below wr.heap.size wr W' → ∀ i, i < out.length → W'.cell? ⟨g, i, none⟩ = some (.int .i64 (out.getD i 0))) := Lib.hid (fun W' h i hi => (h.cell (p := ⟨g, i, none⟩) hgs).trans (hgv i hi))
        have HGS : Hid (g < wr.heap.size ∧ w.heap.size ≤ g) := Lib.hid ⟨hgs, hgb⟩
        have HK1 : Hid (0 < out.length) := Lib.hid (by
          rcases Nat.eq_zero_or_pos k with h | h
          · exact absurd (hKN h) (by simp)
          · have := HOL.out; omega)
        clear hKN
        have HLEN : Hid (out.length ≤ 1000) := Lib.hid (by have := HOL.out; omega)
        have hgci : (out.length : Int) ≤ c := by omega
        clear hgv hO hgs hgb
        go_wp2_with fail
        go_loopw [5] (fun t wr2 => ∃ (j : Nat), j ≤ out.length ∧ t = .int .i64 j ∧ Hid (∀ m, j ≤ m → m < out.length → x < out.getD m 0) ∧ Hid (Below wr.heap.size wr wr2)) (fun t _ => (intOf t).toNat)
        case atStart => exact ⟨out.length, Nat.le_refl _, rfl, Lib.hid (fun m h1 h2 => by omega), Lib.hid (Below.refl _ _)⟩
        case round =>
          obtain ⟨j, hj, rfl, hX, hB2⟩ := hrel
          have HBB := Lib.hid (hB.out.trans (hB2.out.mono hB.out.size))
          have hj0 : (0 : Int) ≤ j := by omega
          have hjl : (j : Int) ≤ out.length := by omega
          have x0 := HX0.out wr HBB.out
          have key : ∀ (nq : Nat) (F : List Value → Prop), True := fun _ _ => trivial
          by_cases hj1 : 0 < j
          · obtain ⟨i, rfl⟩ : ∃ i, j = i + 1 := ⟨j - 1, by omega⟩
            have hil : i < out.length := by omega
            have y0 := HGV.out wr hB2.out i hil
            obtain ⟨y, hy⟩ : ∃ y, out.getD i 0 = y := ⟨_, rfl⟩
            rw [hy] at y0
            have HY := Lib.hid hy
            have hi0' : (0 : Int) ≤ i := by omega
            have hil' : (i : Int) < out.length := by omega
            have hp0 : (0 : Int) < (i : Int) + 1 := by omega
            have hmx : max (0 : Int) i = i := by omega
            have hw1 : IntKind.i64.wrap (i : Int) = i := IntWalk.i64_in _ (by have := HLEN.out; omega)
            clear hy key
            by_cases hxy : x < y
            · go_wp2_with fail
              go_quiet (fail)
              clear hw1
              have HW2 : Hid (wrap64 (i : Int) = i) := Lib.hid (w64 (by have := HLEN.out; omega))
              have HXN : Hid (∀ m, i ≤ m → m < out.length → x < out.getD m 0) := Lib.hid (fun m h1 h2 => by
                rcases Nat.lt_or_ge i m with h3 | h3
                · exact hX.out m (by omega) h2
                · obtain rfl : m = i := by omega
                  rw [HY.out]; exact hxy)
              have hi2 : i ≤ out.length := by omega
              go_wp2_with fail
              refine ⟨⟨i, hi2, by rw [HW2.out], HXN, Lib.hid (below_drewN hB2.out _)⟩, ?_⟩
              rw [HW2.out]
              simp [intOf]
            · have g0 : decide (x < y) = false := decide_eq_false hxy
              go_wp2_with fail
              go_quiet (fail)
              clear hw1
              obtain ⟨Z, hZ⟩ : ∃ Z, wr.drewN nq = Z := ⟨_, rfl⟩
              have HZB : Hid (Below w.heap.size w Z) := Lib.hid (by rw [← hZ]; exact below_drewN HBB.out _)
              have HGZ : Hid (∀ W', Below Z.heap.size Z W' → ∀ i, i < out.length → W'.cell? ⟨g, i, none⟩ = some (.int .i64 (out.getD i 0))) := Lib.hid (fun W' h => HGV.out W' (by
                have h2 := below_drewN hB2.out nq
                rw [hZ] at h2
                exact h2.trans (h.mono h2.size)))
              rw [hZ]
              clear hZ
              have hY := (Below.refl _ Z).alloc (Nat.le_refl Z.heap.size) (.cells #[] 3)
              have HXZ : Hid (∀ W', Below Z.heap.size Z W' → W'.cell? ⟨lb, lo + k, none⟩ = some (.int .i64 x)) := Lib.hid (fun W' h => HX0.out W' (HZB.out.trans (h.mono HZB.out.size)))
              have HOM : Hid ((Z.alloc (.cells #[] 3)).ownsRow Z.heap.size 3 1 (.slice (some ⟨Z.heap.size, 0, none⟩) 0 0) 0 []) := Lib.hid (World.ownsRow_made Z #[] 0 (Nat.le_refl _) (by unfold maxLen; omega) rfl)
              have HN1 : Hid (∀ W', Below Z.heap.size Z W' → ∀ m u, ((out.take (i + 1)).map (Value.int .i64 ·))[m]? = some u → W'.cell? ((⟨g, 0, none⟩ : Addr).add m) = some u) := Lib.hid (fun W' h m u hi => by
                have hil : m < (out.take (i + 1)).length := by have := (List.getElem?_eq_some_iff.1 hi).1; simpa using this
                rw [List.length_take] at hil
                rw [addr_add, Nat.zero_add, HGZ.out W' h m (by omega), ← hi, List.getElem?_map, List.getElem?_take_of_lt (by omega), List.getElem?_eq_getElem (by omega), List.getD_eq_getElem?_getD, List.getElem?_eq_getElem (by omega)]; rfl)
              have HN3 : Hid (∀ W', Below Z.heap.size Z W' → ∀ (ad : Addr), (i + 1 < out.length → ad = ⟨g, i + 1, none⟩) → ∀ m u, ((out.drop (i + 1)).map (Value.int .i64 ·))[m]? = some u → W'.cell? (ad.add m) = some u) := Lib.hid (fun W' h ad hadd m u hi => by
                have hil : m < (out.drop (i + 1)).length := by have := (List.getElem?_eq_some_iff.1 hi).1; simpa using this
                rw [List.length_drop] at hil
                rw [hadd (by omega), addr_add, HGZ.out W' h (i + 1 + m) (by omega), ← hi, List.getElem?_map, List.getElem?_drop, List.getElem?_eq_getElem (by omega), List.getD_eq_getElem?_getD, List.getElem?_eq_getElem (by omega)]; rfl)
              have hlen := HLEN.out
              have hsrt := Lib.hid (insK_sorted (x := x) hS.out (show i + 1 ≤ out.length by omega) hX.out (.inr (by rw [show i + 1 - 1 = i by omega, HY.out]; omega)))
              have htk : (out.take (i + 1)).length = i + 1 := by rw [List.length_take]; omega
              have hjc : ((i + 1 : Nat) : Int) ≤ c := by omega
              have htn : ((i : Int) + 1 : Int).toNat = i + 1 := by omega
              by_cases hcj : c = i + 1
              · subst hcj
                go_wp2_with (at_builtin; (first
                  | (refine wpList_append_own _ rfl _ _ 22 rfl Z.heap.size 3 i0 (.int .i64 0) 1 8 Try.underlying22 hi0 hz0 hz1 hz2 rfl (by decide) _ _ _ rfl HOM.out ⟨g, 0, none⟩ (i + 1) (i + 1) ((out.take (i + 1)).map (Value.int .i64 ·)) rfl (by rw [List.length_map, htk, Nat.mul_one]) (HN1.out _ hY) one_ints (by unfold maxLen; omega) (by omega) (by simp) ?_; intro v6 w6 hown6 hgrow6 _; have HB6 : Below Z.heap.size Z w6 := hY.grown hgrow6 (by simp) (fun j e => (World.ownsRow.lt HOM.out j e).1); have x1 := HXZ.out w6 HB6)
                  | (refine wpList_append_own _ rfl _ _ 22 rfl Z.heap.size 3 i0 (.int .i64 0) 1 8 Try.underlying22 hi0 hz0 hz1 hz2 rfl (by decide) _ _ _ rfl (World.ownsRow.alloc hown6 _) ⟨w6.heap.size, 0, none⟩ 1 1 [.int .i64 x] rfl rfl (fun j u h => cell_one' _ _ _ j u h) (by simp [Value.oneCell']) (by unfold maxLen; omega) (by omega) (by have := HB6.size; simp; omega) ?_; intro v7 w7 hown7 hgrow7 _; have HB7 : Below Z.heap.size Z w7 := (HB6.alloc HB6.size _).grown hgrow7 (by have := HB6.size; simp; omega) (fun j e => (World.ownsRow.lt hown6 j e).1))
                  | (refine wpList_append_own _ rfl _ _ 22 rfl Z.heap.size 3 i0 (.int .i64 0) 1 8 Try.underlying22 hi0 hz0 hz1 hz2 rfl (by decide) _ _ _ rfl hown7 ⟨g, 0, none⟩ (out.length - (i + 1)) ((i + 1) - (i + 1)) ((out.drop (i + 1)).map (Value.int .i64 ·)) (by first | rfl | (simp [Act.eval, Act.put]; done) | (simp [Act.eval, Act.put]; omega)) (by simp) (HN3.out _ HB7 _ (fun h => absurd h (by omega))) one_ints (by unfold maxLen; omega) (by omega) HB7.size ?_; intro v8 w8 hown8 hgrow8 _; have HB8 : Below Z.heap.size Z w8 := HB7.grown hgrow8 HB7.size (fun j e => (World.ownsRow.lt hown7 j e).1))))
                have HB9 : Hid (Below w.heap.size w w8) := Lib.hid (HZB.out.trans (HB8.mono HZB.out.size))
                have HO9 : Hid (w8.ownsRow w.heap.size 3 1 v8 (insK out x (i + 1)).length ((insK out x (i + 1)).map (Value.int .i64 ·))) := Lib.hid (by
                  have e1 : (insK out x (i + 1)).length = 0 + (i + 1) + 1 + (out.length - (i + 1)) := by unfold insK; simp; omega
                  have e2 : (insK out x (i + 1)).map (Value.int .i64 ·) = [] ++ (out.take (i + 1)).map (Value.int .i64 ·) ++ [.int .i64 x] ++ (out.drop (i + 1)).map (Value.int .i64 ·) := by unfold insK; simp
                  rw [e1, e2]
                  exact own_base hown8 HZB.out.size)
                have HPF := Lib.hid (HPN.out _ (insK_perm out x (i + 1)))
                clear hgrow6 hgrow7 hgrow8 hown6 hown7 hown8 HB6 HB7 HB8 hY
                go_wp2_with fail
                go_roundw
                case rel => exact ⟨k + 1, insK out x (i + 1), by omega, by go_num, fun h => absurd h (by omega), HPF, hsrt, HB9, HO9⟩
                case measure => simp [intOf]; omega
              · go_wp2_with (at_builtin; (first
                  | (refine wpList_append_own _ rfl _ _ 22 rfl Z.heap.size 3 i0 (.int .i64 0) 1 8 Try.underlying22 hi0 hz0 hz1 hz2 rfl (by decide) _ _ _ rfl HOM.out ⟨g, 0, none⟩ (i + 1) c ((out.take (i + 1)).map (Value.int .i64 ·)) rfl (by rw [List.length_map, htk, Nat.mul_one]) (HN1.out _ hY) one_ints (by unfold maxLen; omega) (by omega) (by simp) ?_; intro v6 w6 hown6 hgrow6 _; have HB6 : Below Z.heap.size Z w6 := hY.grown hgrow6 (by simp) (fun j e => (World.ownsRow.lt HOM.out j e).1); have x1 := HXZ.out w6 HB6)
                  | (refine wpList_append_own _ rfl _ _ 22 rfl Z.heap.size 3 i0 (.int .i64 0) 1 8 Try.underlying22 hi0 hz0 hz1 hz2 rfl (by decide) _ _ _ rfl (World.ownsRow.alloc hown6 _) ⟨w6.heap.size, 0, none⟩ 1 1 [.int .i64 x] rfl rfl (fun j u h => cell_one' _ _ _ j u h) (by simp [Value.oneCell']) (by unfold maxLen; omega) (by omega) (by have := HB6.size; simp; omega) ?_; intro v7 w7 hown7 hgrow7 _; have HB7 : Below Z.heap.size Z w7 := (HB6.alloc HB6.size _).grown hgrow7 (by have := HB6.size; simp; omega) (fun j e => (World.ownsRow.lt hown6 j e).1))
                  | (refine wpList_append_own _ rfl _ _ 22 rfl Z.heap.size 3 i0 (.int .i64 0) 1 8 Try.underlying22 hi0 hz0 hz1 hz2 rfl (by decide) _ _ _ rfl hown7 ⟨g, i + 1, none⟩ (out.length - (i + 1)) (c - (i + 1)) ((out.drop (i + 1)).map (Value.int .i64 ·)) (by first | rfl | (simp [Act.eval, Act.put]; done) | (simp [Act.eval, Act.put]; omega)) (by simp) (HN3.out _ HB7 _ (fun _ => rfl)) one_ints (by unfold maxLen; omega) (by omega) HB7.size ?_; intro v8 w8 hown8 hgrow8 _; have HB8 : Below Z.heap.size Z w8 := HB7.grown hgrow8 HB7.size (fun j e => (World.ownsRow.lt hown7 j e).1))))
                have HB9 : Hid (Below w.heap.size w w8) := Lib.hid (HZB.out.trans (HB8.mono HZB.out.size))
                have HO9 : Hid (w8.ownsRow w.heap.size 3 1 v8 (insK out x (i + 1)).length ((insK out x (i + 1)).map (Value.int .i64 ·))) := Lib.hid (by
                  have e1 : (insK out x (i + 1)).length = 0 + (i + 1) + 1 + (out.length - (i + 1)) := by unfold insK; simp; omega
                  have e2 : (insK out x (i + 1)).map (Value.int .i64 ·) = [] ++ (out.take (i + 1)).map (Value.int .i64 ·) ++ [.int .i64 x] ++ (out.drop (i + 1)).map (Value.int .i64 ·) := by unfold insK; simp
                  rw [e1, e2]
                  exact own_base hown8 HZB.out.size)
                have HPF := Lib.hid (HPN.out _ (insK_perm out x (i + 1)))
                clear hgrow6 hgrow7 hgrow8 hown6 hown7 hown8 HB6 HB7 HB8 hY
                go_wp2_with fail
                go_roundw
                case rel => exact ⟨k + 1, insK out x (i + 1), by omega, by go_num, fun h => absurd h (by omega), HPF, hsrt, HB9, HO9⟩
                case measure => simp [intOf]; omega
          · obtain rfl : j = 0 := by omega
            go_wp2_with fail
            go_quiet (fail)
            obtain ⟨Z, hZ⟩ : ∃ Z, wr.drewN nq = Z := ⟨_, rfl⟩
            have HZB : Hid (Below w.heap.size w Z) := Lib.hid (by rw [← hZ]; exact below_drewN HBB.out _)
            have HGZ : Hid (∀ W', Below Z.heap.size Z W' → ∀ i, i < out.length → W'.cell? ⟨g, i, none⟩ = some (.int .i64 (out.getD i 0))) := Lib.hid (fun W' h => HGV.out W' (by
              have h2 := below_drewN hB2.out nq
              rw [hZ] at h2
              exact h2.trans (h.mono h2.size)))
            rw [hZ]
            clear hZ
            have hY := (Below.refl _ Z).alloc (Nat.le_refl Z.heap.size) (.cells #[] 3)
            have HXZ : Hid (∀ W', Below Z.heap.size Z W' → W'.cell? ⟨lb, lo + k, none⟩ = some (.int .i64 x)) := Lib.hid (fun W' h => HX0.out W' (HZB.out.trans (h.mono HZB.out.size)))
            have HOM : Hid ((Z.alloc (.cells #[] 3)).ownsRow Z.heap.size 3 1 (.slice (some ⟨Z.heap.size, 0, none⟩) 0 0) 0 []) := Lib.hid (World.ownsRow_made Z #[] 0 (Nat.le_refl _) (by unfold maxLen; omega) rfl)
            have HN1 : Hid (∀ W', Below Z.heap.size Z W' → ∀ m u, ((out.take (0)).map (Value.int .i64 ·))[m]? = some u → W'.cell? ((⟨g, 0, none⟩ : Addr).add m) = some u) := Lib.hid (fun W' h m u hi => by
              have hil : m < (out.take (0)).length := by have h3 := (List.getElem?_eq_some_iff.1 hi).1; simp at h3
              rw [List.length_take] at hil
              rw [addr_add, Nat.zero_add, HGZ.out W' h m (by omega), ← hi, List.getElem?_map, List.getElem?_take_of_lt (by omega), List.getElem?_eq_getElem (by omega), List.getD_eq_getElem?_getD, List.getElem?_eq_getElem (by omega)]; rfl)
            have HN3 : Hid (∀ W', Below Z.heap.size Z W' → ∀ (ad : Addr), (0 < out.length → ad = ⟨g, 0, none⟩) → ∀ m u, ((out.drop (0)).map (Value.int .i64 ·))[m]? = some u → W'.cell? (ad.add m) = some u) := Lib.hid (fun W' h ad hadd m u hi => by
              have hil : m < (out.drop (0)).length := by have := (List.getElem?_eq_some_iff.1 hi).1; simpa using this
              rw [List.length_drop] at hil
              rw [hadd (by omega), addr_add, HGZ.out W' h (0 + m) (by omega), ← hi, List.getElem?_map, List.getElem?_drop, List.getElem?_eq_getElem (by omega), List.getD_eq_getElem?_getD, List.getElem?_eq_getElem (by omega)]; rfl)
            have hlen := HLEN.out
            have hsrt := Lib.hid (insK_sorted (x := x) hS.out (show 0 ≤ out.length by omega) hX.out (.inl rfl))
            have htk : (out.take (0)).length = 0 := by rw [List.length_take]; omega
            have hjc : ((0 : Nat) : Int) ≤ c := by omega
            have htn : ((0 : Int) : Int).toNat = 0 := by omega
            by_cases hcj : c = 0
            · exfalso
              have := HK1.out
              omega
            · go_wp2_with (at_builtin; (first
                | (refine wpList_append_own _ rfl _ _ 22 rfl Z.heap.size 3 i0 (.int .i64 0) 1 8 Try.underlying22 hi0 hz0 hz1 hz2 rfl (by decide) _ _ _ rfl HOM.out ⟨g, 0, none⟩ (0) c ((out.take (0)).map (Value.int .i64 ·)) rfl (by rw [List.length_map, htk, Nat.mul_one]) (HN1.out _ hY) one_ints (by unfold maxLen; omega) (by omega) (by simp) ?_; intro v6 w6 hown6 hgrow6 _; have HB6 : Below Z.heap.size Z w6 := hY.grown hgrow6 (by simp) (fun j e => (World.ownsRow.lt HOM.out j e).1); have x1 := HXZ.out w6 HB6)
                | (refine wpList_append_own _ rfl _ _ 22 rfl Z.heap.size 3 i0 (.int .i64 0) 1 8 Try.underlying22 hi0 hz0 hz1 hz2 rfl (by decide) _ _ _ rfl (World.ownsRow.alloc hown6 _) ⟨w6.heap.size, 0, none⟩ 1 1 [.int .i64 x] rfl rfl (fun j u h => cell_one' _ _ _ j u h) (by simp [Value.oneCell']) (by unfold maxLen; omega) (by omega) (by have := HB6.size; simp; omega) ?_; intro v7 w7 hown7 hgrow7 _; have HB7 : Below Z.heap.size Z w7 := (HB6.alloc HB6.size _).grown hgrow7 (by have := HB6.size; simp; omega) (fun j e => (World.ownsRow.lt hown6 j e).1))
                | (refine wpList_append_own _ rfl _ _ 22 rfl Z.heap.size 3 i0 (.int .i64 0) 1 8 Try.underlying22 hi0 hz0 hz1 hz2 rfl (by decide) _ _ _ rfl hown7 ⟨g, 0, none⟩ (out.length - (0)) (c - (0)) ((out.drop (0)).map (Value.int .i64 ·)) (by first | rfl | (simp [Act.eval, Act.put]; done) | (simp [Act.eval, Act.put]; omega)) (by simp) (HN3.out _ HB7 _ (fun _ => rfl)) one_ints (by unfold maxLen; omega) (by omega) HB7.size ?_; intro v8 w8 hown8 hgrow8 _; have HB8 : Below Z.heap.size Z w8 := HB7.grown hgrow8 HB7.size (fun j e => (World.ownsRow.lt hown7 j e).1))))
              have HB9 : Hid (Below w.heap.size w w8) := Lib.hid (HZB.out.trans (HB8.mono HZB.out.size))
              have HO9 : Hid (w8.ownsRow w.heap.size 3 1 v8 (insK out x (0)).length ((insK out x (0)).map (Value.int .i64 ·))) := Lib.hid (by
                have e1 : (insK out x (0)).length = 0 + (0) + 1 + (out.length - (0)) := by unfold insK; simp; omega
                have e2 : (insK out x (0)).map (Value.int .i64 ·) = [] ++ (out.take (0)).map (Value.int .i64 ·) ++ [.int .i64 x] ++ (out.drop (0)).map (Value.int .i64 ·) := by unfold insK; simp
                rw [e1, e2]
                exact own_base hown8 HZB.out.size)
              have HPF := Lib.hid (HPN.out _ (insK_perm out x (0)))
              clear hgrow6 hgrow7 hgrow8 hown6 hown7 hown8 HB6 HB7 HB8 hY
              go_wp2_with fail
              go_roundw
              case rel => exact ⟨k + 1, insK out x (0), by omega, by go_num, fun h => absurd h (by omega), HPF, hsrt, HB9, HO9⟩
              case measure => simp [intOf]; omega
    · obtain rfl : k = l.length := by omega
      clear hKN
      go_wp2_with fail
      go_ret
      exact ⟨_, out, rfl, hB.out, hO.out, by have := hP.out; rwa [List.take_length] at this, hS.out⟩
end Go.Proofs.Ytjllkmekchmmbaa

/-! The reference's Links. -/
set_option linter.unusedVariables false
set_option linter.unusedSimpArgs false
namespace Go.Proofs.Ytjllkmekchmmbaa
open Go Go.RowKit
attribute [local go_sem] Oper.semAt_some

theorem ord_exists {T : List Tw} (hk : (T.map Tw.id).Nodup) : ∃ L, Ord L T := by
  refine ⟨T.mergeSort (fun s t => decide (s.id ≤ t.id)), List.mergeSort_perm _ _, ?_⟩
  have h1 := List.pairwise_mergeSort (le := fun s t : Tw => decide (s.id ≤ t.id)) (fun a b c h1 h2 => by simp at *; omega) (fun a b => by simp; omega) T
  have h2 : ((T.mergeSort (fun s t => decide (s.id ≤ t.id))).map Tw.id).Nodup := ((List.mergeSort_perm T (fun s t => decide (s.id ≤ t.id))).map Tw.id).nodup_iff.2 hk
  rw [List.nodup_iff_pairwise_ne, List.pairwise_map] at h2
  exact (h1.and h2).imp fun {s t} h => by have h3 := h.1; have h4 := h.2; simp at h3; omega
theorem rise_ids {T L : List Tw} {out : List Int} (hp : out.Perm (T.map Tw.id)) (hs : out.Pairwise (· ≤ ·)) (hL : Ord L T) (hk : (T.map Tw.id).Nodup) : out = L.map Tw.id := by
  have hn : out.Nodup := hp.nodup_iff.2 hk
  rw [List.nodup_iff_pairwise_ne] at hn
  have h1 : out.Pairwise (· < ·) := (hs.and hn).imp fun {s t} h => by have h3 := h.1; have h4 := h.2; omega
  have h2 : (L.map Tw.id).Pairwise (· < ·) := by rw [List.pairwise_map]; exact hL.2
  exact pw_ext (fun x y h => by omega) h1 h2 (fun x => by rw [hp.mem_iff, (hL.1.map Tw.id).mem_iff])
theorem ord_unique {T L M : List Tw} (hL : Ord L T) (hM : Ord M T) : L = M :=
  pw_ext (fun x y h => by omega) hL.2 hM.2 (fun x => by rw [hL.1.mem_iff, hM.1.mem_iff])
theorem twI_mem {T : List Tw} {t : Tw} (ht : t ∈ T) (hk : (T.map Tw.id).Nodup) : ∃ n : Nat, twI T t.id = n ∧ n < T.length ∧ T.getD n .nil = t := by
  rcases twI_cases T t.id with ⟨k, h1, h2, h3, h4⟩ | ⟨h1, _⟩
  · refine ⟨k, h4, h1, ?_⟩
    obtain ⟨j, hj, rfl⟩ := List.getElem_of_mem ht
    rw [getD_tw h1] at h2 ⊢
    have := (List.nodup_iff_pairwise_ne.1 hk)
    have e : k = j := by
      refine (List.getElem_inj (h₀ := by simpa using h1) (h₁ := by simpa using hj) hk).1 ?_
      simpa using h2
    subst e; rfl
  · obtain ⟨j, hj, rfl⟩ := List.getElem_of_mem ht
    exact absurd (by rw [getD_tw hj]) (h1 j hj)
/-- The worlds in the head of a region in which one operation makes a cell. -/
def oneIn (j : Nat) (W0 : World) (ob : Obj) (listed : Array Bool) (w : World) : Prop :=
  Below W0.heap.size W0 w ∧ (listed.getD j false = false → w.heap.size = W0.heap.size) ∧ (listed.getD j false = true → w.heap[W0.heap.size]? = some ob ∧ W0.heap.size < w.heap.size)
theorem turnS_step {P : Program} {ops : Array Oper} {md : Region.Mode} {n j : Nat} {W0 : World} {ob : Obj} {Q : Act → Prop} {o : Oper} {rest : List Oper} {k : Nat} {a : Act} {v : Value} (hkj : k ≠ j) (hw : Region.wanted o (yielded ops a.tmps) = true)
    (h1 : ∀ w', Below W0.heap.size W0 w' → ∀ C' : World → Prop, C' w' → TurnUpon P C' v ((execOp a.eval o).run P w')) (h2 : wpTurn P ops md n (oneIn j W0 ob) Q rest (k + 1) (a.put o.dst v)) :
    wpTurn P ops md n (oneIn j W0 ob) Q (o :: rest) k a :=
  ⟨v, .inl ⟨hw, fun listed w _ _ hC => h1 w hC.1 _ (by unfold oneIn at *; rw [getD_set_ne _ hkj]; exact hC)⟩, h2⟩
theorem turnS_alloc {P : Program} {ops : Array Oper} {md : Region.Mode} {n : Nat} {W0 : World} {ob : Obj} {Q : Act → Prop} {o : Oper} {rest : List Oper} {k : Nat} {a : Act} {v : Value} (hw : Region.wanted o (yielded ops a.tmps) = true)
    (h1 : ∀ w', w'.heap.size = W0.heap.size → Below W0.heap.size W0 w' → ∀ C' : World → Prop, C' (w'.alloc ob) → TurnUpon P C' v ((execOp a.eval o).run P w')) (h2 : wpTurn P ops md n (oneIn k W0 ob) Q rest (k + 1) (a.put o.dst v)) :
    wpTurn P ops md n (oneIn k W0 ob) Q (o :: rest) k a :=
  ⟨v, .inl ⟨hw, fun listed w inv hr hC => by
    have hu0 := (mem_ready.1 hr).1
    have hs := hC.2.1 (getD_both hu0)
    refine h1 w hs hC.1 _ ⟨hC.1.alloc hC.1.size ob, fun h => ?_, fun _ => ⟨?_, ?_⟩⟩
    · have hk : k < listed.size := Nat.lt_of_not_le fun h' => by simp [Array.getElem?_eq_none h'] at hu0
      simp [hk] at h
    · exact gAt w ob _ hs.symm
    · rw [← hs]; simp⟩, h2⟩
theorem two_at {w : World} {b : Nat} {x y : Value} {t : TypeId} {f : Nat × Nat} (h : w.heap[b]? = some (.cells #[x, y] t f)) (j : Nat) (u : Value) (hu : [x, y][j]? = some u) : w.cell? ((⟨b, 0, none⟩ : Addr).add j) = some u := by
  have e : (⟨b, 0, none⟩ : Addr).add j = ⟨b, j, none⟩ := by unfold Addr.add; split <;> simp_all
  rw [e, cellH h]
  simpa using hu
def LkA (w W1 : World) (wd hg ti tx ty th ui ux uy uh : Int) (oa ha : Option Addr) (gn oc tn tc hn hc ib io ic ln k jn ix iy tb tf : Nat) (u7 u10 u11 u22 u23 u24 u25 u26 u27 u28 u29 u30 u31 u32 u5 u39 u40 u47 u48 u49 u50 u51 u52 u53 u54 u55 u56 u57 u58 u59 u60 u61 u62 u63 u64 u65 u66 u67 u68 u69 u70 u71 u72 u73 u74 u75 u76 u77 u78 u79 u80 u81 u82 u83 u84 u85 u86 u87 u88 : Value) (listed : Array Bool) (a : Act) (w' : World) : Prop := ∃ (l0 l1 l2 l3 l4 l5 l6 l7 l8 l9 l10 l11 : Bool) (A : Nat), listed = #[l0, l1, l2, l3, l4, l5, l6, l7, l8, l9, l10, l11] ∧ a = { tmps := #[.agg #[.int .i64 wd, .int .i64 hg, .slice oa gn oc, .slice (some ⟨tb, tf, none⟩) tn tc, .slice ha hn hc], .pointer (some ⟨w.heap.size, 0, none⟩), .slice none 0 0, .int .i64 0, .int .i64 0, .slice (some ⟨ib, io, none⟩) ln ic, .int .i64 tn, u7, .int .i64 k, .int .i64 jn, pickIf l10 (.pointer (some ⟨A, 0, none⟩)) u10, u11, .agg #[.int .i64 wd, .int .i64 hg, .slice oa gn oc, .slice (some ⟨tb, tf, none⟩) tn tc, .slice ha hn hc], .int .i64 0, .int .i64 0, .bool false, undef, .int .i64 tn, .pointer (some ⟨w.heap.size, 3, none⟩), .slice (some ⟨tb, tf, none⟩) tn tc, .int .i64 tn, .bool false, u22, u23, u24, u25, u26, u27, u28, u29, u30, u31, u32, u5, .slice (some ⟨ib, io, none⟩) ln ic, .int .i64 k, .slice (some ⟨ib, io, none⟩) ln ic, .int .i64 ln, .bool true, u39, u40, .int .i64 k, .int .i64 ((k : Int) + 1), .int .i64 jn, .slice (some ⟨ib, io, none⟩) ln ic, .int .i64 ln, .bool true, u47, u48, pickIf l0 (.pointer (some ⟨w.heap.size, 3, none⟩)) u49, pickIf l1 (.slice (some ⟨tb, tf, none⟩) tn tc) u50, pickIf l2 (.agg #[.int .i64 wd, .int .i64 hg, .slice oa gn oc, .slice (some ⟨tb, tf, none⟩) tn tc, .slice ha hn hc]) u51, pickIf l3 (.slice (some ⟨ib, io, none⟩) ln ic) u52, pickIf l4 (.int .i64 k) u53, pickIf l5 (.pointer (some ⟨ib, io + k, none⟩)) u54, pickIf l6 (.int .i64 ti) u55, pickIf l7 (.int .i64 ix) u56, pickIf l8 (.pointer (some ⟨tb, tf + ix * 4, none⟩)) u57, pickIf l9 (.agg #[.int .i64 ti, .int .i64 tx, .int .i64 ty, .int .i64 th]) u58, u59, u60, u61, u62, u63, u64, u65, u66, u67, u68, u69, u70, u71, u72, u73, u74, u75, u76, u77, u78, u79, u80, u81, u82, u83, u84, u85, u86, u87, u88, undef], defers := [] } ∧ Below W1.heap.size W1 w' ∧ (l10 = true → W1.heap.size ≤ A ∧ w'.heap[A]? = some (.cells #[.int .i64 (if l11 = true then ti else 0), .int .i64 (if l11 = true then tx else 0), .int .i64 (if l11 = true then ty else 0), .int .i64 (if l11 = true then th else 0)] 73 (0, 0))) ∧ (l11 = true → l10 = true)
def LkB (w W1 : World) (wd hg ti tx ty th ui ux uy uh : Int) (oa ha : Option Addr) (gn oc tn tc hn hc ib io ic ln k jn ix iy tb tf A : Nat) (u7 u10 u11 u22 u23 u24 u25 u26 u27 u28 u29 u30 u31 u32 u5 u39 u40 u47 u48 u49 u50 u51 u52 u53 u54 u55 u56 u57 u58 u59 u60 u61 u62 u63 u64 u65 u66 u67 u68 u69 u70 u71 u72 u73 u74 u75 u76 u77 u78 u79 u80 u81 u82 u83 u84 u85 u86 u87 u88 : Value) (listed : Array Bool) (a : Act) (w' : World) : Prop := ∃ (l0 l1 l2 l3 l4 l5 l6 l7 l8 l9 l10 l11 : Bool) (B : Nat), listed = #[l0, l1, l2, l3, l4, l5, l6, l7, l8, l9, l10, l11] ∧ a = { tmps := #[.agg #[.int .i64 wd, .int .i64 hg, .slice oa gn oc, .slice (some ⟨tb, tf, none⟩) tn tc, .slice ha hn hc], .pointer (some ⟨w.heap.size, 0, none⟩), .slice none 0 0, .int .i64 0, .int .i64 0, .slice (some ⟨ib, io, none⟩) ln ic, .int .i64 tn, u7, .int .i64 k, .int .i64 jn, .pointer (some ⟨A, 0, none⟩), pickIf l10 (.pointer (some ⟨B, 0, none⟩)) u11, .agg #[.int .i64 wd, .int .i64 hg, .slice oa gn oc, .slice (some ⟨tb, tf, none⟩) tn tc, .slice ha hn hc], .int .i64 0, .int .i64 0, .bool false, undef, .int .i64 tn, .pointer (some ⟨w.heap.size, 3, none⟩), .slice (some ⟨tb, tf, none⟩) tn tc, .int .i64 tn, .bool false, u22, u23, u24, u25, u26, u27, u28, u29, u30, u31, u32, u5, .slice (some ⟨ib, io, none⟩) ln ic, .int .i64 k, .slice (some ⟨ib, io, none⟩) ln ic, .int .i64 ln, .bool true, u39, u40, .int .i64 k, .int .i64 ((k : Int) + 1), .int .i64 jn, .slice (some ⟨ib, io, none⟩) ln ic, .int .i64 ln, .bool true, u47, u48, .pointer (some ⟨w.heap.size, 3, none⟩), .slice (some ⟨tb, tf, none⟩) tn tc, .agg #[.int .i64 wd, .int .i64 hg, .slice oa gn oc, .slice (some ⟨tb, tf, none⟩) tn tc, .slice ha hn hc], .slice (some ⟨ib, io, none⟩) ln ic, .int .i64 k, .pointer (some ⟨ib, io + k, none⟩), .int .i64 ti, .int .i64 ix, .pointer (some ⟨tb, tf + ix * 4, none⟩), .agg #[.int .i64 ti, .int .i64 tx, .int .i64 ty, .int .i64 th], pickIf l0 (.pointer (some ⟨w.heap.size, 3, none⟩)) u59, pickIf l1 (.slice (some ⟨tb, tf, none⟩) tn tc) u60, pickIf l2 (.agg #[.int .i64 wd, .int .i64 hg, .slice oa gn oc, .slice (some ⟨tb, tf, none⟩) tn tc, .slice ha hn hc]) u61, pickIf l3 (.slice (some ⟨ib, io, none⟩) ln ic) u62, pickIf l4 (.int .i64 jn) u63, pickIf l5 (.pointer (some ⟨ib, io + jn, none⟩)) u64, pickIf l6 (.int .i64 ui) u65, pickIf l7 (.int .i64 iy) u66, pickIf l8 (.pointer (some ⟨tb, tf + iy * 4, none⟩)) u67, pickIf l9 (.agg #[.int .i64 ui, .int .i64 ux, .int .i64 uy, .int .i64 uh]) u68, u69, u70, u71, u72, u73, u74, u75, u76, u77, u78, u79, u80, u81, u82, u83, u84, u85, u86, u87, u88, undef], defers := [] } ∧ Below W1.heap.size W1 w' ∧ (l10 = true → W1.heap.size ≤ B ∧ w'.heap[B]? = some (.cells #[.int .i64 (if l11 = true then ui else 0), .int .i64 (if l11 = true then ux else 0), .int .i64 (if l11 = true then uy else 0), .int .i64 (if l11 = true then uh else 0)] 73 (0, 0))) ∧ (l11 = true → l10 = true)
set_option maxRecDepth 100000 in
set_option maxHeartbeats 8000000 in
theorem rLinks_any (wd hg : Int) (o tv hv : Value) (g : List Int) (T : List Tw) (H : List Hz) (w : World) (ho : INRow w o g) (hl : g.length ≤ 9223372036854775807) (ht : TwRow w tv T) (htl : T.length ≤ 9223372036854775807) (hh : HzRow w hv H) (hhl : H.length ≤ 9223372036854775807) :
    Calls Try.prog 27 #[coV wd hg o tv hv] w fun e w' => ∃ v', e = .returned (.tuple #[v', .int .i64 (ckE wd hg g T H)]) ∧ Below w.heap.size w w' ∧ (ckE wd hg g T H ≠ 0 → v' = .slice none 0 0) ∧
      (ckE wd hg g T H = 0 → ∃ L, Ord L T ∧ w'.ownsRow w.heap.size 53 2 v' (lkP g wd L).length ((lkP g wd L).flatMap encI2)) := by
  have HC1 := Lib.hid (fun w' (h : Below w.heap.size w w') => rCheck_any wd hg o tv hv g T H w' (ho.keep h) hl (ht.keep h) htl (hh.keep h) hhl)
  have HTW := Lib.hid (fun id w' (h : Below w.heap.size w w') => rtowered_any wd hg o tv hv T id w' (ht.keep h) htl)
  have HO := Lib.hid ho
  obtain ⟨oa, oc, rfl, _⟩ := ho.form
  obtain ⟨ta, tc, rfl, htc⟩ := ht.form
  have HTC := Lib.hid htc
  obtain ⟨ha, hc, rfl, _⟩ := hh.form
  obtain ⟨W1, hW1, hb0, hs1, hrd⟩ := co_reads w wd hg (.slice oa g.length oc) (.slice ta T.length tc) (.slice ha H.length hc)
  have HW1 := Lib.hid hW1; have HB0 := Lib.hid hb0; have HRD := Lib.hid hrd
  clear hW1 hb0 hs1 hrd ho ht htc hh hl htl hhl
  unfold coV at HC1 HTW
  unfold coV
  by_cases hE : ckE wd hg g T H = 0
  case neg =>
    obtain ⟨E, hEe⟩ : ∃ x, ckE wd hg g T H = x := ⟨_, rfl⟩
    rw [hEe] at hE HC1 ⊢
    have HE := Lib.hid hE
    have qe : (E != 0) = true := by simpa using hE
    clear hE hEe
    go_enter Try.func27, Try.ntmps27
    go_wp2_with fail
    rw [← HW1.out]
    obtain ⟨q0, q1, q2, q3, q4⟩ := HRD.out W1 (Below.refl _ _)
    go_wp2_with fail
    refine (HC1.out _ HB0.out).mono ?_
    rintro e w2 ⟨rfl, hb2⟩
    have HB2 := Lib.hid (HB0.out.trans (hb2.mono HB0.out.size))
    clear hb2 q0 q1 q2 q3 q4
    go_wp2_with fail
    go_ret2
    exact ⟨_, rfl, HB2.out, fun _ => rfl, fun h => absurd h HE.out⟩
  rw [hE] at HC1 ⊢
  obtain ⟨hm, hn, _, hok, hnd, _⟩ := ckE_ok hE
  have HM := Lib.hid hm
  have HOK := Lib.hid hok
  have HND := Lib.hid hnd
  obtain ⟨L, hL⟩ := ord_exists hnd
  have HORD := Lib.hid hL
  have HLL : Hid (L.length = T.length) := Lib.hid hL.1.length_eq
  have HRI := Lib.hid (fun v l w' (h1 : INRow w' v l) (h2 : l.length ≤ 1000) => rising_any v l w' h1 h2)
  obtain ⟨i0, hi0, hz0, hz1, hz2⟩ := info_parts info_in
  obtain ⟨j0, hj0, hy0, hy1, hy2⟩ := info_parts info_i2
  clear hE hm hok hnd hL
  go_enter Try.func27, Try.ntmps27
  go_wp2_with fail
  rw [← HW1.out]
  obtain ⟨q0, q1, q2, q3, q4⟩ := HRD.out W1 (Below.refl _ _)
  go_wp2_with fail
  refine (HC1.out _ HB0.out).mono ?_
  rintro e w2 ⟨rfl, hb2⟩
  have HD2 := Lib.hid hb2
  have HB2 := Lib.hid (HB0.out.trans (hb2.mono HB0.out.size))
  clear q0 q1 q2 q3 q4 hb2
  go_wp2_with fail
  go_loopw [5, 6] (fun v i wr => ∃ (k : Nat), k ≤ T.length ∧ i = .int .i64 k ∧ Hid (Below w2.heap.size w2 wr) ∧ Hid (wr.ownsRow w2.heap.size 3 1 v k ((T.take k).map fun t => Value.int .i64 t.id))) (fun _ i _ => T.length - (intOf i).toNat)
  case atStart => exact ⟨0, Nat.zero_le _, rfl, Lib.hid (Below.refl _ _), Lib.hid (World.ownsRow_nil _ _ _ _)⟩
  case round =>
    obtain ⟨k, hk, rfl, hB, hO⟩ := hrel
    have HDR := Lib.hid (HD2.out.trans (hB.out.mono HD2.out.size))
    have HBR := Lib.hid (HB2.out.trans (hB.out.mono HB2.out.size))
    obtain ⟨q0, q1, q2, q3, q4⟩ := HRD.out wr HDR.out
    by_cases hkl : k < T.length
    · obtain ⟨b, off, rfl, hb, c0, _, _, _⟩ := HTC.out k hkl
      have hki : (k : Int) < T.length := by omega
      have hk0 : (0 : Int) ≤ k := by omega
      have e0 := (HBR.out.cell (p := ⟨b, _, none⟩) hb).trans c0
      have HFL : Hid ((T.take (k + 1)).map (fun t => Value.int .i64 t.id) = (T.take k).map (fun t => Value.int .i64 t.id) ++ [.int .i64 (T.getD k .nil).id]) := Lib.hid (by
        rw [take_succ_getD hkl, List.map_append]; rfl)
      obtain ⟨x, hx⟩ : ∃ x, (T.getD k .nil).id = x := ⟨_, rfl⟩
      rw [hx] at e0 HFL
      have hO5 := hO.out
      have h63 : k + 1 ≤ maxLen := by unfold maxLen; omega
      have hby : (k + 1) * 8 ≤ 140737488355328 := by omega
      have hbase : w2.heap.size ≤ wr.heap.size := hB.out.size
      clear hx c0 hb
      go_wp2_with (at_builtin; refine wpList_append_own _ rfl _ _ 22 rfl w2.heap.size 3 i0 (.int .i64 0) 1 8 Try.underlying22 hi0 hz0 hz1 hz2 rfl (by decide) _ _ _ rfl (World.ownsRow.alloc hO5 _) ⟨wr.heap.size, 0, none⟩ 1 1 [.int .i64 x] rfl rfl (fun j u h => cell_one' _ _ _ j u h) (by simp [Value.oneCell']) h63 hby (by simp; omega) ?_; intro v' w6 hown' hgrow _)
      have HB6 : Hid (Below w2.heap.size w2 w6) := Lib.hid ((hB.out.alloc hbase _).grown hgrow (by simp; omega) (fun j e => (World.ownsRow.lt hO5 j e).1))
      have HO6 : Hid (w6.ownsRow w2.heap.size 3 1 v' (k + 1) ((T.take (k + 1)).map fun t => Value.int .i64 t.id)) := Lib.hid (by
        rw [HFL.out]; exact hown')
      clear hown' hgrow hO5 q0 q1 q2 q3 q4
      go_wp2_with fail
      go_roundw
      case rel => exact ⟨k + 1, by omega, by go_num, HB6, HO6⟩
      case measure => simp [intOf]; omega
    · obtain rfl : k = T.length := by omega
      have ho9 : wr.ownsRow w2.heap.size 3 1 u5 (T.map Tw.id).length ((T.map Tw.id).map (Value.int .i64 ·)) := by
        have h9 := hO.out
        rw [List.take_length] at h9
        rw [List.length_map, List.map_map]; exact h9
      have HINR : Hid (INRow wr u5 (T.map Tw.id)) := Lib.hid (by
        rcases own_ints ho9 with ⟨h1, h2⟩ | ⟨g9, c9, h1, _, _, h4, h5⟩
        · rw [h2]; exact .inl ⟨_, _, h1, rfl⟩
        · exact .inr ⟨g9, 0, c9, h1, h4, fun i hi => by rw [Nat.zero_add]; exact h5 i hi⟩)
      have hlen9 : (T.map Tw.id).length ≤ 1000 := by rw [List.length_map]; omega
      clear ho9
      go_wp2_with fail
      refine (HRI.out _ _ _ HINR.out hlen9).mono ?_
      rintro e w5 ⟨v5, out, rfl, hb5, hown, hpm, hsr⟩
      have hids := rise_ids hpm hsr HORD.out HND.out
      subst hids
      have HD5 := Lib.hid (HDR.out.trans (hb5.mono HDR.out.size))
      have HB5 := Lib.hid (HBR.out.trans (hb5.mono HBR.out.size))
      have HIR : Hid (INRow w5 v5 (L.map Tw.id)) := Lib.hid (by
        rcases own_ints hown with ⟨h1, h2⟩ | ⟨g9, c9, h1, _, _, h4, h5⟩
        · rw [h2]; exact .inl ⟨_, _, h1, rfl⟩
        · exact .inr ⟨g9, 0, c9, h1, h4, fun i hi => by rw [Nat.zero_add]; exact h5 i hi⟩)
      obtain ⟨ia, ic, rfl, hic⟩ := HIR.out.form
      have HIC := Lib.hid hic
      rw [List.length_map] at HIC ⊢
      have hLn : L.length ≤ 12 := by have := HLL.out; omega
      clear hb5 hown hpm hsr hic hlen9 q0 q1 q2 q3 q4 hB hO HIR
      go_wp2_with fail
      go_loopw [7, 8] (fun v i wr => ∃ (k : Nat) (ps : List (Int × Int)), k ≤ L.length ∧ i = .int .i64 k ∧ Hid (lkP g wd L = ps ++ lkP g wd (L.drop k)) ∧ Hid (ps.length ≤ 12 * k) ∧ Hid (Below w5.heap.size w5 wr) ∧ Hid (wr.ownsRow w5.heap.size 53 2 v ps.length (ps.flatMap encI2))) (fun _ i _ => L.length - (intOf i).toNat)
      case atStart => exact ⟨0, [], Nat.zero_le _, rfl, Lib.hid rfl, Lib.hid (by simp), Lib.hid (Below.refl _ _), Lib.hid (World.ownsRow_nil _ _ _ _)⟩
      case round =>
        obtain ⟨k, ps, hk, rfl, hT, hP, hB, hO⟩ := hrel
        by_cases hkl : k < L.length
        · have hki : (k : Int) < L.length := by omega
          have hk0 : (0 : Int) ≤ k := by omega
          have hT' : Hid (lkP g wd L = ps ++ (seenL g wd (L.getD k .nil) (L.drop (k + 1)) ++ lkP g wd (L.drop (k + 1)))) := Lib.hid (by
            rw [hT.out, tdrop_at hkl]; rfl)
          have hLk : L.getD k .nil ∈ L := by rw [getD_tw hkl]; exact List.getElem_mem _
          have HOKs : Hid (okT wd hg (L.getD k .nil)) := Lib.hid (HOK.out _ (HORD.out.1.mem_iff.1 hLk))
          have hix := twI_mem (HORD.out.1.mem_iff.1 hLk) HND.out
          obtain ⟨ib, io, rfl, hib, hI⟩ := HIC.out k hkl
          have HIB : Hid (∀ W', Below w5.heap.size w5 W' → ∀ i, i < L.length → W'.cell? ⟨ib, io + i, none⟩ = some (.int .i64 (L.getD i .nil).id)) := Lib.hid (fun W' h i hi => by
            obtain ⟨b', o', e', h1, h2⟩ := HIC.out i hi
            cases e'
            rw [(h.cell (p := ⟨ib, _, none⟩) h1).trans h2]
            rw [List.getD_eq_getElem?_getD, List.getElem?_map, List.getElem?_eq_getElem hi, getD_tw hi]; rfl)
          obtain ⟨ix, hixe, hixl, hixt⟩ := hix
          obtain ⟨tb, tf, rfl, htb, d0, d1, d2, d3⟩ := HTC.out ix hixl
          have HIDK : Hid (∀ W', Below w5.heap.size w5 W' → W'.cell? ⟨ib, io + k, none⟩ = some (.int .i64 (L.getD k .nil).id)) := Lib.hid (fun W' h => HIB.out W' h k hkl)
          rw [hixt] at d0 d1 d2 d3
          obtain ⟨⟨ti, tx, ty, th⟩, hx⟩ : ∃ x, L.getD k .nil = x := ⟨_, rfl⟩
          rw [hx] at d0 d1 d2 d3 hT' HOKs hixe HIDK
          simp only at d0 d1 d2 d3 hixe HIDK
          have HTM : Hid (∀ W', Below w.heap.size w W' → W'.cell? ⟨tb, tf + ix * 4, none⟩ = some (.int .i64 ti) ∧ W'.cell? ⟨tb, tf + ix * 4 + 1, none⟩ = some (.int .i64 tx) ∧ W'.cell? ⟨tb, tf + ix * 4 + 2, none⟩ = some (.int .i64 ty) ∧ W'.cell? ⟨tb, tf + ix * 4 + 3, none⟩ = some (.int .i64 th)) := Lib.hid (fun W' h => ⟨(h.cell (p := ⟨tb, _, none⟩) htb).trans d0, (h.cell (p := ⟨tb, _, none⟩) htb).trans d1, (h.cell (p := ⟨tb, _, none⟩) htb).trans d2, (h.cell (p := ⟨tb, _, none⟩) htb).trans d3⟩)
          have HTC2 : Hid (∀ i, i < T.length → ∀ W', Below w.heap.size w W' → W'.cell? ⟨tb, tf + i * 4, none⟩ = some (.int .i64 (T.getD i .nil).id) ∧ W'.cell? ⟨tb, tf + i * 4 + 1, none⟩ = some (.int .i64 (T.getD i .nil).x) ∧ W'.cell? ⟨tb, tf + i * 4 + 2, none⟩ = some (.int .i64 (T.getD i .nil).y) ∧ W'.cell? ⟨tb, tf + i * 4 + 3, none⟩ = some (.int .i64 (T.getD i .nil).h)) := Lib.hid (fun i hi W' h => by
            obtain ⟨b', o', e', h1, k0, k1, k2, k3⟩ := HTC.out i hi
            cases e'
            exact ⟨(h.cell (p := ⟨tb, _, none⟩) h1).trans k0, (h.cell (p := ⟨tb, _, none⟩) h1).trans k1, (h.cell (p := ⟨tb, _, none⟩) h1).trans k2, (h.cell (p := ⟨tb, _, none⟩) h1).trans k3⟩)
          have HIX := Lib.hid (And.intro hixe hixl)
          have hIXi : (ix : Int) < T.length := by omega
          have hIX0 : (0 : Int) ≤ ix := by omega
          have HIXX := Lib.hid (And.intro hIXi hIX0)
          have HLX := Lib.hid hx
          clear hLk hib hI hixe hixl hixt htb d0 d1 d2 d3 hx hT hIXi hIX0
          have HHO := Lib.hid hO.out
          have HHB := Lib.hid hB.out
          have HW64 : Hid (wrap64 ((k : Int) + 1) = k + 1) := Lib.hid (w64 (by omega))
          have hw64 := HW64.out
          go_wp2_with fail
          clear hw64
          go_loopw [7, 9] (fun v j wQ => ∃ (jn : Nat) (qs : List (Int × Int)), k + 1 ≤ jn ∧ jn ≤ L.length ∧ j = .int .i64 jn ∧ Hid (lkP g wd L = qs ++ (seenL g wd ⟨ti, tx, ty, th⟩ (L.drop jn) ++ lkP g wd (L.drop (k + 1)))) ∧ Hid (qs.length ≤ 12 * k + (jn - (k + 1))) ∧ Hid (Below w5.heap.size w5 wQ) ∧ Hid (wQ.ownsRow w5.heap.size 53 2 v qs.length (qs.flatMap encI2))) (fun _ j _ => L.length - (intOf j).toNat)
          case atStart => exact ⟨k + 1, ps, Nat.le_refl _, hkl, by go_num, hT', Lib.hid (by have := hP.out; omega), HHB, HHO⟩
          case round =>
            clear hB hO hP
            obtain ⟨jn, qs, hj1, hj2, rfl, hT2, hP2, hB2, hO2⟩ := hrel
            have HDQ := Lib.hid (HD5.out.trans (hB2.out.mono HD5.out.size))
            have HBQ := Lib.hid (HB5.out.trans (hB2.out.mono HB5.out.size))
            by_cases hjl : jn < L.length
            · have hji : (jn : Int) < L.length := by omega
              have hj00 : (0 : Int) ≤ jn := by omega
              clear hj2
              go_wp2_with fail
              rename_i Q0 K0 hK0 K hK
              have hIX := HIXX.out
              have RDA : Hid (∀ W', Below wr.heap.size wr W' → W'.cell? ⟨w.heap.size, 0, none⟩ = some (.int .i64 wd) ∧ W'.cell? ⟨w.heap.size, 1, none⟩ = some (.int .i64 hg) ∧ W'.cell? ⟨w.heap.size, 2, none⟩ = some (.slice oa g.length oc) ∧ W'.cell? ⟨w.heap.size, 3, none⟩ = some (.slice (some ⟨tb, tf, none⟩) T.length tc) ∧ W'.cell? ⟨w.heap.size, 4, none⟩ = some (.slice ha H.length hc) ∧ W'.cell? ⟨ib, io + k, none⟩ = some (.int .i64 ti) ∧ W'.cell? ⟨tb, tf + ix * 4, none⟩ = some (.int .i64 ti) ∧ W'.cell? ⟨tb, tf + ix * 4 + 1, none⟩ = some (.int .i64 tx) ∧ W'.cell? ⟨tb, tf + ix * 4 + 2, none⟩ = some (.int .i64 ty) ∧ W'.cell? ⟨tb, tf + ix * 4 + 3, none⟩ = some (.int .i64 th)) := Lib.hid (fun W' h => by
                obtain ⟨z0, z1, z2, z3, z4⟩ := HRD.out W' (HDQ.out.trans (h.mono HDQ.out.size))
                obtain ⟨z6, z7, z8, z9⟩ := HTM.out W' (HBQ.out.trans (h.mono HBQ.out.size))
                exact ⟨z0, z1, z2, z3, z4, HIDK.out W' (hB2.out.trans (h.mono hB2.out.size)), z6, z7, z8, z9⟩)
              have CTA : Hid (∀ w', Below wr.heap.size wr w' → Calls Try.prog 58 #[.agg #[.int .i64 wd, .int .i64 hg, .slice oa g.length oc, .slice (some ⟨tb, tf, none⟩) T.length tc, .slice ha H.length hc], .int .i64 ti] w' fun e w'' => e = .returned (.int .i64 ix) ∧ Below w'.heap.size w' w'') := Lib.hid (fun w' h => by
                have h2 := HTW.out ti w' (HBQ.out.trans (h.mono HBQ.out.size))
                rw [HIX.out.1] at h2; exact h2)
              have hLj : L.getD jn .nil ∈ L := by rw [getD_tw hjl]; exact List.getElem_mem _
              have HOKt : Hid (okT wd hg (L.getD jn .nil)) := Lib.hid (HOK.out _ (HORD.out.1.mem_iff.1 hLj))
              obtain ⟨iy, hiy, hiyl, hiyt⟩ := twI_mem (HORD.out.1.mem_iff.1 hLj) HND.out
              have HTN := Lib.hid (HTC2.out iy hiyl)
              have HIDJ : Hid (∀ W', Below w5.heap.size w5 W' → W'.cell? ⟨ib, io + jn, none⟩ = some (.int .i64 (L.getD jn .nil).id)) := Lib.hid (fun W' h => HIB.out W' h jn hjl)
              have hT3 : Hid (lkP g wd L = qs ++ (((if freeB g wd (tx, ty) th ((L.getD jn .nil).x, (L.getD jn .nil).y) (L.getD jn .nil).h = true then [(ti, (L.getD jn .nil).id)] else []) ++ seenL g wd ⟨ti, tx, ty, th⟩ (L.drop (jn + 1))) ++ lkP g wd (L.drop (k + 1)))) := Lib.hid (by
                have h9 := hT2.out; rw [tdrop_at hjl, seenL_cons] at h9; exact h9)
              rw [hiyt] at HTN
              obtain ⟨⟨ui, ux, uy, uh⟩, hux⟩ : ∃ x, L.getD jn .nil = x := ⟨_, rfl⟩
              rw [hux] at HTN HIDJ HOKt hT3 hiy
              simp only at HTN HIDJ hT3 hiy
              have HIY := Lib.hid (And.intro hiy hiyl)
              have hiyi : (iy : Int) < T.length := by omega
              have hiy0 : (0 : Int) ≤ iy := by omega
              clear hLj hiy hiyl hiyt hux
              suffices keyA : ∀ (A : Nat) (W : World), Hid (Below wr.heap.size wr W ∧ wr.heap.size ≤ A ∧ W.heap[A]? = some (.cells #[.int .i64 ti, .int .i64 tx, .int .i64 ty, .int .i64 th] 73 (0, 0))) → K { tmps := #[.agg #[.int .i64 wd, .int .i64 hg, .slice oa g.length oc, .slice (some ⟨tb, tf, none⟩) T.length tc, .slice ha H.length hc], .pointer (some ⟨w.heap.size, 0, none⟩), .slice none 0 0, .int .i64 0, .int .i64 0, .slice (some ⟨ib, io, none⟩) L.length ic, .int .i64 T.length, u7, .int .i64 k, .int .i64 jn, (.pointer (some ⟨A, 0, none⟩)), u11, .agg #[.int .i64 wd, .int .i64 hg, .slice oa g.length oc, .slice (some ⟨tb, tf, none⟩) T.length tc, .slice ha H.length hc], .int .i64 0, .int .i64 0, .bool false, undef, .int .i64 T.length, .pointer (some ⟨w.heap.size, 3, none⟩), .slice (some ⟨tb, tf, none⟩) T.length tc, .int .i64 T.length, .bool false, u22, u23, u24, u25, u26, u27, u28, u29, u30, u31, u32, u5, .slice (some ⟨ib, io, none⟩) L.length ic, .int .i64 k, .slice (some ⟨ib, io, none⟩) L.length ic, .int .i64 L.length, .bool true, u39, u40, .int .i64 k, .int .i64 ((k : Int) + 1), .int .i64 jn, .slice (some ⟨ib, io, none⟩) L.length ic, .int .i64 L.length, .bool true, u47, u48, (.pointer (some ⟨w.heap.size, 3, none⟩)), (.slice (some ⟨tb, tf, none⟩) T.length tc), (.agg #[.int .i64 wd, .int .i64 hg, .slice oa g.length oc, .slice (some ⟨tb, tf, none⟩) T.length tc, .slice ha H.length hc]), (.slice (some ⟨ib, io, none⟩) L.length ic), (.int .i64 k), (.pointer (some ⟨ib, io + k, none⟩)), (.int .i64 ti), (.int .i64 ix), (.pointer (some ⟨tb, tf + ix * 4, none⟩)), (.agg #[.int .i64 ti, .int .i64 tx, .int .i64 ty, .int .i64 th]), u59, u60, u61, u62, u63, u64, u65, u66, u67, u68, u69, u70, u71, u72, u73, u74, u75, u76, u77, u78, u79, u80, u81, u82, u83, u84, u85, u86, u87, u88, undef], defers := [] } W by
                clear hK
                refine wp_region_inv (by kernel_rfl) (LkA w wr wd hg ti tx ty th ui ux uy uh oa ha g.length oc T.length tc H.length hc ib io ic L.length k jn ix iy tb tf  u7 u10 u11 u22 u23 u24 u25 u26 u27 u28 u29 u30 u31 u32 u5 u39 u40 u47 u48 u49 u50 u51 u52 u53 u54 u55 u56 u57 u58 u59 u60 u61 u62 u63 u64 u65 u66 u67 u68 u69 u70 u71 u72 u73 u74 u75 u76 u77 u78 u79 u80 u81 u82 u83 u84 u85 u86 u87 u88) ⟨false, false, false, false, false, false, false, false, false, false, false, false, 0, rfl, rfl, (Below.refl _ wr).drew, by simp, by simp⟩ ?hend ?hstep
                case hend =>
                  rintro listed a w' ⟨l0, l1, l2, l3, l4, l5, l6, l7, l8, l9, l10, l11, A, rfl, rfl, hb, hA, kA⟩ hr
                  have hAll := ready_all (by kernel_rfl) rfl hr 12
                  have hall : l0 = true ∧ l1 = true ∧ l2 = true ∧ l3 = true ∧ l4 = true ∧ l5 = true ∧ l6 = true ∧ l7 = true ∧ l8 = true ∧ l9 = true ∧ l10 = true ∧ l11 = true :=
                    ⟨hAll 0 (by decide) (by simp), hAll 1 (by decide) (by simp), hAll 2 (by decide) (by simp), hAll 3 (by decide) (by simp), hAll 4 (by decide) (by simp), hAll 5 (by decide) (by simp), hAll 6 (by decide) (by simp), hAll 7 (by decide) (by simp), hAll 8 (by decide) (by simp), hAll 9 (by decide) (by simp), hAll 10 (by decide) (by simp), hAll 11 (by decide) (by simp)⟩
                  obtain ⟨rfl, rfl, rfl, rfl, rfl, rfl, rfl, rfl, rfl, rfl, rfl, rfl⟩ := hall
                  exact keyA A w' (Lib.hid ⟨hb, (hA rfl).1, (hA rfl).2⟩)
                case hstep =>
                  rintro listed a w' i ⟨l0, l1, l2, l3, l4, l5, l6, l7, l8, l9, l10, l11, A, rfl, rfl, hb, hA, kA⟩ hi
                  obtain ⟨hf, o', ho', hp⟩ := mem_ready.1 hi
                  have hi8 : i < 12 := (Array.getElem?_eq_some_iff.1 ho').1
                  clear hi
                  have hQD := RDA.out w' hb
                  match i, hi8 with
                  | 0, _ =>
                    obtain rfl : l0 = false := hf
                    clear hp ho'
                    unfold wpOp
                    go_simp
                    exact .inl ⟨true, l1, l2, l3, l4, l5, l6, l7, l8, l9, l10, l11, A, rfl, rfl, hb, hA, kA⟩
                  | 1, _ =>
                    obtain rfl : l1 = false := hf
                    cases ho'
                    obtain rfl : l0 = true := hp ⟨0, .data⟩ (by simp) rfl
                    clear hp
                    unfold wpOp
                    simp only [pickIf_true]
                    go_simp
                    exact .inl ⟨true, true, l2, l3, l4, l5, l6, l7, l8, l9, l10, l11, A, rfl, rfl, hb, hA, kA⟩
                  | 2, _ =>
                    obtain rfl : l2 = false := hf
                    clear hp ho'
                    unfold wpOp
                    go_simp
                    exact .inl ⟨l0, l1, true, l3, l4, l5, l6, l7, l8, l9, l10, l11, A, rfl, rfl, hb, hA, kA⟩
                  | 3, _ =>
                    obtain rfl : l3 = false := hf
                    clear hp ho'
                    unfold wpOp
                    go_simp
                    exact .inl ⟨l0, l1, l2, true, l4, l5, l6, l7, l8, l9, l10, l11, A, rfl, rfl, hb, hA, kA⟩
                  | 4, _ =>
                    obtain rfl : l4 = false := hf
                    clear hp ho'
                    unfold wpOp
                    go_simp
                    exact .inl ⟨l0, l1, l2, l3, true, l5, l6, l7, l8, l9, l10, l11, A, rfl, rfl, hb, hA, kA⟩
                  | 5, _ =>
                    obtain rfl : l5 = false := hf
                    cases ho'
                    obtain rfl : l3 = true := hp ⟨3, .data⟩ (by simp) rfl
                    obtain rfl : l4 = true := hp ⟨4, .data⟩ (by simp) rfl
                    clear hp
                    unfold wpOp
                    simp only [pickIf_true]
                    go_simp
                    exact .inl ⟨l0, l1, l2, true, true, true, l6, l7, l8, l9, l10, l11, A, rfl, rfl, hb, hA, kA⟩
                  | 6, _ =>
                    obtain rfl : l6 = false := hf
                    cases ho'
                    obtain rfl : l5 = true := hp ⟨5, .data⟩ (by simp) rfl
                    clear hp
                    unfold wpOp
                    simp only [pickIf_true]
                    go_simp
                    exact .inl ⟨l0, l1, l2, l3, l4, true, true, l7, l8, l9, l10, l11, A, rfl, rfl, hb, hA, kA⟩
                  | 7, _ =>
                    obtain rfl : l7 = false := hf
                    cases ho'
                    obtain rfl : l2 = true := hp ⟨2, .data⟩ (by simp) rfl
                    obtain rfl : l6 = true := hp ⟨6, .data⟩ (by simp) rfl
                    clear hp
                    unfold wpOp
                    simp only [pickIf_true]
                    go_simp
                    refine .inl ((CTA.out w' hb).mono ?_)
                    rintro e w55 ⟨rfl, hb5⟩
                    exact ⟨l0, l1, true, l3, l4, l5, true, true, l8, l9, l10, l11, A, rfl, rfl, hb.trans (hb5.mono hb.size), fun h => ⟨(hA h).1, (hb5.block _ (Array.getElem?_eq_some_iff.1 (hA h).2).1).trans (hA h).2⟩, kA⟩
                  | 8, _ =>
                    obtain rfl : l8 = false := hf
                    cases ho'
                    obtain rfl : l1 = true := hp ⟨1, .data⟩ (by simp) rfl
                    obtain rfl : l7 = true := hp ⟨7, .data⟩ (by simp) rfl
                    clear hp
                    unfold wpOp
                    simp only [pickIf_true]
                    go_simp
                    exact .inl ⟨l0, true, l2, l3, l4, l5, l6, true, true, l9, l10, l11, A, rfl, rfl, hb, hA, kA⟩
                  | 9, _ =>
                    obtain rfl : l9 = false := hf
                    cases ho'
                    obtain rfl : l8 = true := hp ⟨8, .data⟩ (by simp) rfl
                    clear hp
                    unfold wpOp
                    simp only [pickIf_true]
                    go_simp
                    exact .inl ⟨l0, l1, l2, l3, l4, l5, l6, l7, true, true, l10, l11, A, rfl, rfl, hb, hA, kA⟩
                  | 10, _ =>
                    obtain rfl : l10 = false := hf
                    obtain rfl : l11 = false := by
                      cases l11 with
                      | false => rfl
                      | true => exact absurd (kA rfl) (by decide)
                    clear hp ho'
                    unfold wpOp
                    go_simp
                    exact .inl ⟨l0, l1, l2, l3, l4, l5, l6, l7, l8, l9, true, false, w'.heap.size, rfl, rfl, hb.alloc hb.size _, fun _ => ⟨hb.size, heap_alloc_new _ _⟩, fun h => (by cases h)⟩
                  | 11, _ =>
                    obtain rfl : l11 = false := hf
                    cases ho'
                    obtain rfl : l9 = true := hp ⟨9, .data⟩ (by simp) rfl
                    obtain rfl : l10 = true := hp ⟨10, .data⟩ (by simp) rfl
                    clear hp
                    obtain ⟨f1, f2⟩ := hA rfl
                    simp only [Bool.false_eq_true, if_false] at f2
                    have x0 := cellH f2 0
                    have x1 := cellH f2 1
                    have x2 := cellH f2 2
                    have x3 := cellH f2 3
                    have xf := freeH f2
                    simp at x0 x1 x2 x3
                    unfold wpOp
                    simp only [pickIf_true]
                    go_simp
                    exact .inl ⟨l0, l1, l2, l3, l4, l5, l6, l7, l8, true, true, true, A, rfl, rfl, ((((hb.setCell (p := ⟨A, 0, none⟩) (by simpa using f1) _).setCell (p := ⟨A, 1, none⟩) (by simpa using f1) _).setCell (p := ⟨A, 2, none⟩) (by simpa using f1) _).setCell (p := ⟨A, 3, none⟩) (by simpa using f1) _), fun _ => ⟨f1, (heap_same (heap_same (heap_same (heap_same f2 0 _) 1 _) 2 _) 3 _)⟩, fun _ => rfl⟩
              intro A WA HWA
              show K _ _
              apply hK
              clear hK
              have HFA := Lib.hid (HWA.out.1)
              have HAR := Lib.hid (HWA.out.2.2)
              have HDA := Lib.hid (HDQ.out.trans (HFA.out.mono HDQ.out.size))
              have HBA := Lib.hid (HBQ.out.trans (HFA.out.mono HBQ.out.size))
              have H5A := Lib.hid (hB2.out.trans (HFA.out.mono hB2.out.size))
              have RDB : Hid (∀ W', Below WA.heap.size WA W' → W'.cell? ⟨w.heap.size, 0, none⟩ = some (.int .i64 wd) ∧ W'.cell? ⟨w.heap.size, 1, none⟩ = some (.int .i64 hg) ∧ W'.cell? ⟨w.heap.size, 2, none⟩ = some (.slice oa g.length oc) ∧ W'.cell? ⟨w.heap.size, 3, none⟩ = some (.slice (some ⟨tb, tf, none⟩) T.length tc) ∧ W'.cell? ⟨w.heap.size, 4, none⟩ = some (.slice ha H.length hc) ∧ W'.cell? ⟨ib, io + jn, none⟩ = some (.int .i64 ui) ∧ W'.cell? ⟨tb, tf + iy * 4, none⟩ = some (.int .i64 ui) ∧ W'.cell? ⟨tb, tf + iy * 4 + 1, none⟩ = some (.int .i64 ux) ∧ W'.cell? ⟨tb, tf + iy * 4 + 2, none⟩ = some (.int .i64 uy) ∧ W'.cell? ⟨tb, tf + iy * 4 + 3, none⟩ = some (.int .i64 uh)) := Lib.hid (fun W' h => by
                obtain ⟨z0, z1, z2, z3, z4⟩ := HRD.out W' (HDA.out.trans (h.mono HDA.out.size))
                obtain ⟨z6, z7, z8, z9⟩ := HTN.out W' (HBA.out.trans (h.mono HBA.out.size))
                exact ⟨z0, z1, z2, z3, z4, HIDJ.out W' (H5A.out.trans (h.mono H5A.out.size)), z6, z7, z8, z9⟩)
              have CTB : Hid (∀ w', Below WA.heap.size WA w' → Calls Try.prog 58 #[.agg #[.int .i64 wd, .int .i64 hg, .slice oa g.length oc, .slice (some ⟨tb, tf, none⟩) T.length tc, .slice ha H.length hc], .int .i64 ui] w' fun e w'' => e = .returned (.int .i64 iy) ∧ Below w'.heap.size w' w'') := Lib.hid (fun w' h => by
                have h2 := HTW.out ui w' (HBA.out.trans (h.mono HBA.out.size))
                rw [HIY.out.1] at h2; exact h2)
              clear HWA CTA
              go_wp2_with fail
              rename_i K hK
              suffices keyB : ∀ (B : Nat) (W : World), Hid (Below WA.heap.size WA W ∧ WA.heap.size ≤ B ∧ W.heap[B]? = some (.cells #[.int .i64 ui, .int .i64 ux, .int .i64 uy, .int .i64 uh] 73 (0, 0))) → K { tmps := #[.agg #[.int .i64 wd, .int .i64 hg, .slice oa g.length oc, .slice (some ⟨tb, tf, none⟩) T.length tc, .slice ha H.length hc], .pointer (some ⟨w.heap.size, 0, none⟩), .slice none 0 0, .int .i64 0, .int .i64 0, .slice (some ⟨ib, io, none⟩) L.length ic, .int .i64 T.length, u7, .int .i64 k, .int .i64 jn, .pointer (some ⟨A, 0, none⟩), (.pointer (some ⟨B, 0, none⟩)), .agg #[.int .i64 wd, .int .i64 hg, .slice oa g.length oc, .slice (some ⟨tb, tf, none⟩) T.length tc, .slice ha H.length hc], .int .i64 0, .int .i64 0, .bool false, undef, .int .i64 T.length, .pointer (some ⟨w.heap.size, 3, none⟩), .slice (some ⟨tb, tf, none⟩) T.length tc, .int .i64 T.length, .bool false, u22, u23, u24, u25, u26, u27, u28, u29, u30, u31, u32, u5, .slice (some ⟨ib, io, none⟩) L.length ic, .int .i64 k, .slice (some ⟨ib, io, none⟩) L.length ic, .int .i64 L.length, .bool true, u39, u40, .int .i64 k, .int .i64 ((k : Int) + 1), .int .i64 jn, .slice (some ⟨ib, io, none⟩) L.length ic, .int .i64 L.length, .bool true, u47, u48, .pointer (some ⟨w.heap.size, 3, none⟩), .slice (some ⟨tb, tf, none⟩) T.length tc, .agg #[.int .i64 wd, .int .i64 hg, .slice oa g.length oc, .slice (some ⟨tb, tf, none⟩) T.length tc, .slice ha H.length hc], .slice (some ⟨ib, io, none⟩) L.length ic, .int .i64 k, .pointer (some ⟨ib, io + k, none⟩), .int .i64 ti, .int .i64 ix, .pointer (some ⟨tb, tf + ix * 4, none⟩), .agg #[.int .i64 ti, .int .i64 tx, .int .i64 ty, .int .i64 th], (.pointer (some ⟨w.heap.size, 3, none⟩)), (.slice (some ⟨tb, tf, none⟩) T.length tc), (.agg #[.int .i64 wd, .int .i64 hg, .slice oa g.length oc, .slice (some ⟨tb, tf, none⟩) T.length tc, .slice ha H.length hc]), (.slice (some ⟨ib, io, none⟩) L.length ic), (.int .i64 jn), (.pointer (some ⟨ib, io + jn, none⟩)), (.int .i64 ui), (.int .i64 iy), (.pointer (some ⟨tb, tf + iy * 4, none⟩)), (.agg #[.int .i64 ui, .int .i64 ux, .int .i64 uy, .int .i64 uh]), u69, u70, u71, u72, u73, u74, u75, u76, u77, u78, u79, u80, u81, u82, u83, u84, u85, u86, u87, u88, undef], defers := [] } W by
                clear hK
                refine wp_region_inv (by kernel_rfl) (LkB w WA wd hg ti tx ty th ui ux uy uh oa ha g.length oc T.length tc H.length hc ib io ic L.length k jn ix iy tb tf A u7 u10 u11 u22 u23 u24 u25 u26 u27 u28 u29 u30 u31 u32 u5 u39 u40 u47 u48 u49 u50 u51 u52 u53 u54 u55 u56 u57 u58 u59 u60 u61 u62 u63 u64 u65 u66 u67 u68 u69 u70 u71 u72 u73 u74 u75 u76 u77 u78 u79 u80 u81 u82 u83 u84 u85 u86 u87 u88) ⟨false, false, false, false, false, false, false, false, false, false, false, false, 0, rfl, rfl, (Below.refl _ WA).drew, by simp, by simp⟩ ?hend ?hstep
                case hend =>
                  rintro listed a w' ⟨l0, l1, l2, l3, l4, l5, l6, l7, l8, l9, l10, l11, B, rfl, rfl, hb, hB, kB⟩ hr
                  have hAll := ready_all (by kernel_rfl) rfl hr 12
                  have hall : l0 = true ∧ l1 = true ∧ l2 = true ∧ l3 = true ∧ l4 = true ∧ l5 = true ∧ l6 = true ∧ l7 = true ∧ l8 = true ∧ l9 = true ∧ l10 = true ∧ l11 = true :=
                    ⟨hAll 0 (by decide) (by simp), hAll 1 (by decide) (by simp), hAll 2 (by decide) (by simp), hAll 3 (by decide) (by simp), hAll 4 (by decide) (by simp), hAll 5 (by decide) (by simp), hAll 6 (by decide) (by simp), hAll 7 (by decide) (by simp), hAll 8 (by decide) (by simp), hAll 9 (by decide) (by simp), hAll 10 (by decide) (by simp), hAll 11 (by decide) (by simp)⟩
                  obtain ⟨rfl, rfl, rfl, rfl, rfl, rfl, rfl, rfl, rfl, rfl, rfl, rfl⟩ := hall
                  exact keyB B w' (Lib.hid ⟨hb, (hB rfl).1, (hB rfl).2⟩)
                case hstep =>
                  rintro listed a w' i ⟨l0, l1, l2, l3, l4, l5, l6, l7, l8, l9, l10, l11, B, rfl, rfl, hb, hB, kB⟩ hi
                  obtain ⟨hf, o', ho', hp⟩ := mem_ready.1 hi
                  have hi8 : i < 12 := (Array.getElem?_eq_some_iff.1 ho').1
                  clear hi
                  have hQD := RDB.out w' hb
                  match i, hi8 with
                  | 0, _ =>
                    obtain rfl : l0 = false := hf
                    clear hp ho'
                    unfold wpOp
                    go_simp
                    exact .inl ⟨true, l1, l2, l3, l4, l5, l6, l7, l8, l9, l10, l11, B, rfl, rfl, hb, hB, kB⟩
                  | 1, _ =>
                    obtain rfl : l1 = false := hf
                    cases ho'
                    obtain rfl : l0 = true := hp ⟨0, .data⟩ (by simp) rfl
                    clear hp
                    unfold wpOp
                    simp only [pickIf_true]
                    go_simp
                    exact .inl ⟨true, true, l2, l3, l4, l5, l6, l7, l8, l9, l10, l11, B, rfl, rfl, hb, hB, kB⟩
                  | 2, _ =>
                    obtain rfl : l2 = false := hf
                    clear hp ho'
                    unfold wpOp
                    go_simp
                    exact .inl ⟨l0, l1, true, l3, l4, l5, l6, l7, l8, l9, l10, l11, B, rfl, rfl, hb, hB, kB⟩
                  | 3, _ =>
                    obtain rfl : l3 = false := hf
                    clear hp ho'
                    unfold wpOp
                    go_simp
                    exact .inl ⟨l0, l1, l2, true, l4, l5, l6, l7, l8, l9, l10, l11, B, rfl, rfl, hb, hB, kB⟩
                  | 4, _ =>
                    obtain rfl : l4 = false := hf
                    clear hp ho'
                    unfold wpOp
                    go_simp
                    exact .inl ⟨l0, l1, l2, l3, true, l5, l6, l7, l8, l9, l10, l11, B, rfl, rfl, hb, hB, kB⟩
                  | 5, _ =>
                    obtain rfl : l5 = false := hf
                    cases ho'
                    obtain rfl : l3 = true := hp ⟨3, .data⟩ (by simp) rfl
                    obtain rfl : l4 = true := hp ⟨4, .data⟩ (by simp) rfl
                    clear hp
                    unfold wpOp
                    simp only [pickIf_true]
                    go_simp
                    exact .inl ⟨l0, l1, l2, true, true, true, l6, l7, l8, l9, l10, l11, B, rfl, rfl, hb, hB, kB⟩
                  | 6, _ =>
                    obtain rfl : l6 = false := hf
                    cases ho'
                    obtain rfl : l5 = true := hp ⟨5, .data⟩ (by simp) rfl
                    clear hp
                    unfold wpOp
                    simp only [pickIf_true]
                    go_simp
                    exact .inl ⟨l0, l1, l2, l3, l4, true, true, l7, l8, l9, l10, l11, B, rfl, rfl, hb, hB, kB⟩
                  | 7, _ =>
                    obtain rfl : l7 = false := hf
                    cases ho'
                    obtain rfl : l2 = true := hp ⟨2, .data⟩ (by simp) rfl
                    obtain rfl : l6 = true := hp ⟨6, .data⟩ (by simp) rfl
                    clear hp
                    unfold wpOp
                    simp only [pickIf_true]
                    go_simp
                    refine .inl ((CTB.out w' hb).mono ?_)
                    rintro e w55 ⟨rfl, hb5⟩
                    exact ⟨l0, l1, true, l3, l4, l5, true, true, l8, l9, l10, l11, B, rfl, rfl, hb.trans (hb5.mono hb.size), fun h => ⟨(hB h).1, (hb5.block _ (Array.getElem?_eq_some_iff.1 (hB h).2).1).trans (hB h).2⟩, kB⟩
                  | 8, _ =>
                    obtain rfl : l8 = false := hf
                    cases ho'
                    obtain rfl : l1 = true := hp ⟨1, .data⟩ (by simp) rfl
                    obtain rfl : l7 = true := hp ⟨7, .data⟩ (by simp) rfl
                    clear hp
                    unfold wpOp
                    simp only [pickIf_true]
                    go_simp
                    exact .inl ⟨l0, true, l2, l3, l4, l5, l6, true, true, l9, l10, l11, B, rfl, rfl, hb, hB, kB⟩
                  | 9, _ =>
                    obtain rfl : l9 = false := hf
                    cases ho'
                    obtain rfl : l8 = true := hp ⟨8, .data⟩ (by simp) rfl
                    clear hp
                    unfold wpOp
                    simp only [pickIf_true]
                    go_simp
                    exact .inl ⟨l0, l1, l2, l3, l4, l5, l6, l7, true, true, l10, l11, B, rfl, rfl, hb, hB, kB⟩
                  | 10, _ =>
                    obtain rfl : l10 = false := hf
                    obtain rfl : l11 = false := by
                      cases l11 with
                      | false => rfl
                      | true => exact absurd (kB rfl) (by decide)
                    clear hp ho'
                    unfold wpOp
                    go_simp
                    exact .inl ⟨l0, l1, l2, l3, l4, l5, l6, l7, l8, l9, true, false, w'.heap.size, rfl, rfl, hb.alloc hb.size _, fun _ => ⟨hb.size, heap_alloc_new _ _⟩, fun h => (by cases h)⟩
                  | 11, _ =>
                    obtain rfl : l11 = false := hf
                    cases ho'
                    obtain rfl : l9 = true := hp ⟨9, .data⟩ (by simp) rfl
                    obtain rfl : l10 = true := hp ⟨10, .data⟩ (by simp) rfl
                    clear hp
                    obtain ⟨f1, f2⟩ := hB rfl
                    simp only [Bool.false_eq_true, if_false] at f2
                    have x0 := cellH f2 0
                    have x1 := cellH f2 1
                    have x2 := cellH f2 2
                    have x3 := cellH f2 3
                    have xf := freeH f2
                    simp at x0 x1 x2 x3
                    unfold wpOp
                    simp only [pickIf_true]
                    go_simp
                    exact .inl ⟨l0, l1, l2, l3, l4, l5, l6, l7, l8, true, true, true, B, rfl, rfl, ((((hb.setCell (p := ⟨B, 0, none⟩) (by simpa using f1) _).setCell (p := ⟨B, 1, none⟩) (by simpa using f1) _).setCell (p := ⟨B, 2, none⟩) (by simpa using f1) _).setCell (p := ⟨B, 3, none⟩) (by simpa using f1) _), fun _ => ⟨f1, (heap_same (heap_same (heap_same (heap_same f2 0 _) 1 _) 2 _) 3 _)⟩, fun _ => rfl⟩
              intro B WB HWB
              show K _ _
              apply hK
              clear hK
              obtain ⟨hb9, hB9, hBR⟩ := HWB.out
              have HDB := Lib.hid (HDA.out.trans (hb9.mono HDA.out.size))
              have HBB := Lib.hid (HBA.out.trans (hb9.mono HBA.out.size))
              have H5B := Lib.hid (H5A.out.trans (hb9.mono H5A.out.size))
              have har2 := (hb9.block _ (Array.getElem?_eq_some_iff.1 HAR.out).1).trans HAR.out
              have HRB : Hid (∀ W', Below WB.heap.size WB W' → W'.cell? ⟨A, 0, none⟩ = some (.int .i64 ti) ∧ W'.cell? ⟨A, 1, none⟩ = some (.int .i64 tx) ∧ W'.cell? ⟨A, 2, none⟩ = some (.int .i64 ty) ∧ W'.cell? ⟨A, 3, none⟩ = some (.int .i64 th) ∧ W'.cell? ⟨B, 0, none⟩ = some (.int .i64 ui) ∧ W'.cell? ⟨B, 1, none⟩ = some (.int .i64 ux) ∧ W'.cell? ⟨B, 2, none⟩ = some (.int .i64 uy) ∧ W'.cell? ⟨B, 3, none⟩ = some (.int .i64 uh)) := Lib.hid (fun W' h => by
                have a := (h.block _ (Array.getElem?_eq_some_iff.1 har2).1).trans har2
                have b := (h.block _ (Array.getElem?_eq_some_iff.1 hBR).1).trans hBR
                exact ⟨cellH a 0, cellH a 1, cellH a 2, cellH a 3, cellH b 0, cellH b 1, cellH b 2, cellH b 3⟩)
              have HO2B : Hid (WB.ownsRow w5.heap.size 53 2 u7 qs.length (qs.flatMap encI2)) := Lib.hid (own_below (own_below hO2.out HFA.out) hb9)
              obtain ⟨f1, f2, f3, f4⟩ := ok_free HOKs.out HOKt.out
              have HFR : Hid (∀ w', Below w.heap.size w w' → Calls Try.prog 65 #[.agg #[.int .i64 wd, .int .i64 hg, .slice oa g.length oc], .agg #[.int .i64 ti, .int .i64 tx, .int .i64 ty, .int .i64 th], .agg #[.int .i64 ux, .int .i64 uy], .int .i64 uh] w' fun e w'' => e = .returned (.bool (freeB g wd (tx, ty) th (ux, uy) uh)) ∧ Below w'.heap.size w' w'') := Lib.hid (fun w' h => rsees_any wd hg (.slice oa g.length oc) g ti tx ty th ux uy uh w' (HO.out.keep h) HM.out f1 f2 f3 f4)
              obtain ⟨fb, hfb⟩ : ∃ x, freeB g wd (tx, ty) th (ux, uy) uh = x := ⟨_, rfl⟩
              rw [hfb] at HFR hT3
              have hql : qs.length ≤ 160 := by have := hP2.out; omega
              obtain ⟨q0, q1, q2, q3, q4⟩ := HRD.out WB HDB.out
              obtain ⟨r0, r1, r2, r3, r4, r5, r6, r7⟩ := HRB.out WB (Below.refl _ _)
              clear hb9 hB9 hBR har2 f1 f2 f3 f4 hfb HWB CTB HAR
              go_wp2_with fail
              refine (HFR.out _ HBB.out).mono ?_
              rintro e w7 ⟨rfl, hb7⟩
              have HD7 := Lib.hid (HDB.out.trans (hb7.mono HDB.out.size))
              have HB7 := Lib.hid (HBB.out.trans (hb7.mono HBB.out.size))
              have H57 := Lib.hid (H5B.out.trans (hb7.mono H5B.out.size))
              have HO7 := Lib.hid (own_below HO2B.out hb7)
              have HID7 := Lib.hid (HIDK.out w7 H57.out)
              have HIJ7 := Lib.hid (HIDJ.out w7 H57.out)
              clear q0 q1 q2 q3 q4 r0 r1 r2 r3 r4 r5 r6 r7 hb7
              cases fb
              · have HN : Hid (lkP g wd L = qs ++ (seenL g wd ⟨ti, tx, ty, th⟩ (L.drop (jn + 1)) ++ lkP g wd (L.drop (k + 1)))) := Lib.hid hT3.out
                go_wp2_with fail
                go_roundw
                case rel => exact ⟨jn + 1, qs, by omega, hjl, by go_num, HN, Lib.hid (by have := hP2.out; omega), H57, HO7⟩
                case measure => simp [intOf]; omega
              · have HN : Hid (lkP g wd L = (qs ++ [(ti, ui)]) ++ (seenL g wd ⟨ti, tx, ty, th⟩ (L.drop (jn + 1)) ++ lkP g wd (L.drop (k + 1)))) := Lib.hid (by
                  rw [hT3.out, if_pos rfl]; simp [List.append_assoc])
                have KA : Hid (∀ W', Below w7.heap.size w7 W' → W'.cell? ⟨ib, io + k, none⟩ = some (.int .i64 ti) ∧ W'.cell? ⟨ib, io + jn, none⟩ = some (.int .i64 ui)) := Lib.hid (fun W' h => ⟨HIDK.out W' (H57.out.trans (h.mono H57.out.size)), HIDJ.out W' (H57.out.trans (h.mono H57.out.size))⟩)
                go_wp2_with fail
                refine wp_region_turn 11 (oneIn 10 w7 (.cells #[.int .i64 ti, .int .i64 ui] 53)) (by kernel_rfl) (by kernel_rfl) (by unfold oneIn; exact ⟨(Below.refl _ w7).drew, fun _ => rfl, fun h => absurd h (by rw [getD_replicate_false]; decide)⟩) ?_
                simp only [List.take_succ_cons, List.take_zero, List.drop_succ_cons, List.drop_zero]
                iterate 10
                  (apply turnS_step (by decide) (by rfl); (intro w' hw' C' hC'; obtain ⟨y0, y1⟩ := KA.out w' hw'; go_simp; exact ⟨hC', rfl⟩))
                  simp only [Act.put, List.setIfInBounds_toArray, List.set_cons_succ, List.set_cons_zero]
                (apply turnS_alloc (v := .slice (some ⟨w7.heap.size, 0, none⟩) 1 1) (by rfl); (intro w' hs hw' C' hC'; go_simp; first | exact hC' | exact ⟨hC', by rw [hs]⟩))
                simp only [Act.put, List.setIfInBounds_toArray, List.set_cons_succ, List.set_cons_zero]
                intro listed w8 hl8 hC8
                obtain ⟨hw8, _, h8⟩ := hC8
                obtain ⟨h8, h8s⟩ := h8 (hl8 10 (by decide))
                have HB8 := Lib.hid (H57.out.trans (hw8.mono H57.out.size))
                have HO8 := Lib.hid (own_below HO7.out hw8)
                have HNW := Lib.hid (two_at h8)
                clear hw8 KA h8 h8s hl8
                have hO8 := HO8.out
                have h63 : qs.length + 1 ≤ maxLen := by unfold maxLen; omega
                have hby : (qs.length + 1) * 16 ≤ 140737488355328 := by omega
                have hbase : w5.heap.size ≤ w8.heap.size := HB8.out.size
                go_wp2_with (at_builtin; refine wpList_append_own _ rfl _ _ 50 rfl w5.heap.size 53 j0 (.agg #[.int .i64 0, .int .i64 0]) 2 16 Try.underlying50 hj0 hy0 hy1 hy2 rfl (by decide) _ _ _ rfl hO8 ⟨w7.heap.size, 0, none⟩ 1 1 [.int .i64 ti, .int .i64 ui] rfl rfl HNW.out (by simp [Value.oneCell']) h63 hby hbase ?_; intro v' w9 hown' hgrow _)
                have HB9 : Hid (Below w5.heap.size w5 w9) := Lib.hid (HB8.out.grown hgrow hbase (fun j e => (World.ownsRow.lt hO8 j e).1))
                have HO9 : Hid (w9.ownsRow w5.heap.size 53 2 v' (qs ++ [(ti, ui)]).length ((qs ++ [(ti, ui)]).flatMap encI2)) := Lib.hid (by
                  rw [List.length_append, List.flatMap_append]; exact hown')
                clear hown' hgrow hO8
                go_wp2_with fail
                go_roundw
                case rel => exact ⟨jn + 1, qs ++ [(ti, ui)], by omega, hjl, by go_num, HN, Lib.hid (by have := hP2.out; simp only [List.length_append, List.length_cons, List.length_nil]; omega), HB9, HO9⟩
                case measure => simp [intOf]; omega

            · obtain rfl : jn = L.length := by omega
              have HN : Hid (lkP g wd L = qs ++ lkP g wd (L.drop (k + 1))) := Lib.hid (by
                rw [hT2.out, List.drop_length]; rfl)
              have hw64 := HW64.out
              go_wp2_with fail
              go_roundw
              case rel => exact ⟨k + 1, qs, by omega, by go_num, HN, Lib.hid (by have := hP2.out; omega), hB2, hO2⟩
              case measure => simp [intOf]; omega
        · obtain rfl : k = L.length := by omega
          have HN : Hid (lkP g wd L = ps) := Lib.hid (by rw [hT.out, List.drop_length]; simp [lkP])
          have HBF := Lib.hid (HB5.out.trans (hB.out.mono HB5.out.size))
          go_wp2_with fail
          go_ret2
          refine ⟨_, rfl, HBF.out, fun h => absurd rfl h, fun _ => ⟨L, HORD.out, ?_⟩⟩
          rw [HN.out]
          exact own_base hO.out HB5.out.size
end Go.Proofs.Ytjllkmekchmmbaa

/-! RidgeLinks: Links answers as the reference does. -/
set_option linter.unusedVariables false
set_option linter.unusedSimpArgs false
namespace Go.Proofs.Ytjllkmekchmmbaa
open Go Go.RowKit

theorem two_in (x y : Int) (w : World) : (Op.equalIn 10000 53 (.agg #[.int .i64 x, .int .i64 y]) (.agg #[.int .i64 x, .int .i64 y])).run Try.prog w = .ok true w := by
  obtain ⟨i0, hi0, hz0, hz1, hz2⟩ := info_parts info_in
  have hu : Try.prog.underlying 53 = some (.array 2 3) := by kernel_rfl
  have hui : Try.prog.underlying 3 = some (.int .i64) := by kernel_rfl
  have hc : Try.prog.cellsOf 3 = 1 := by kernel_rfl
  have p0 : (part 3 #[.int .i64 x, .int .i64 y] 0).run Try.prog w = .ok (.int .i64 x) w := by kernel_rfl
  have p1 : (part 3 #[.int .i64 x, .int .i64 y] 1).run Try.prog w = .ok (.int .i64 y) w := by kernel_rfl
  have e1 : ∀ z : Int, (Op.equalIn 9999 3 (.int .i64 z) (.int .i64 z)).run Try.prog w = .ok true w := fun z => by
    have h := run_equalIn_int (P := Try.prog) w 9998 3 .i64 .i64 z z hui
    simpa using h
  have h := run_equalIn_array (P := Try.prog) w 9999 #[.int .i64 x, .int .i64 y] #[.int .i64 x, .int .i64 y] hu hi0
  rw [show (10000 : Nat) = 9999 + 1 from rfl, h, hc, show List.range 2 = [0, 1] from rfl]
  simp only [Op.eqItems, Sem.run_bind, Nat.zero_mul, Nat.one_mul, p0, p1, e1, Result.andThen_ok, Bool.not_true, Bool.false_eq_true, if_false, Sem.run_pure]
theorem two_ne (x y : Int) (w : World) : (binOp .neq 53 (.agg #[.int .i64 x, .int .i64 y]) (.agg #[.int .i64 x, .int .i64 y])).run Try.prog w = .ok (.bool false) w := by
  rw [run_neq_struct, two_in]; rfl
theorem PlRow.of_pairs {w : World} {base : Nat} {v : Value} {l : List Pl} (h : w.ownsRow base 53 2 v l.length (l.flatMap encI2)) : PlRow w v l := by
  rcases h.2 with ⟨h1, h2⟩ | ⟨nb, nc, cur, e1, e2, e3, e4, e5, e6, e7⟩
  · have : l = [] := List.eq_nil_of_length_eq_zero h2
    subst this
    exact .inl ⟨none, 0, h1, rfl⟩
  · refine .inr ⟨nb, 0, nc, e1, by omega, (Array.getElem?_eq_some_iff.1 e3).1, fun i hi => ?_⟩
    have hl := flatP_len l
    obtain ⟨g1, g2⟩ := flatP_get l i hi
    have h7 : cur.toList.take (l.length * 2) = l.flatMap encP := by
      have h8 : cur.toList.take (l.length * 2) = l.flatMap encI2 := by simpa using e7
      exact h8
    rw [← h7] at g1 g2
    rw [List.getElem?_take_of_lt (by omega), Array.getElem?_toList] at g1 g2
    rw [cellH e3, cellH e3, Nat.zero_add]
    exact ⟨g1, g2⟩
theorem lkP_len (g : List Int) (wd : Int) : ∀ L : List Tw, L.length ≤ 12 → (lkP g wd L).length ≤ 12 * L.length
  | [], _ => by simp [lkP]
  | s :: L, h => by
    have h1 := seenL_len g wd s L
    rw [List.length_cons] at h
    have h2 := lkP_len g wd L (by omega)
    rw [lkP, List.length_append, List.length_cons]
    omega
/-- The links of a country without a fault. -/
theorem lk_pairs (wd hg : Int) (g : List Int) (T : List Tw) (H : List Hz) : ∃ P : List Pl, P.length ≤ 1000000 ∧ (ckE wd hg g T H ≠ 0 → P = []) ∧ (ckE wd hg g T H = 0 → ∀ L, Ord L T → lkP g wd L = P) := by
  by_cases hE : ckE wd hg g T H = 0
  · obtain ⟨hm, hn, _, hok, hnd, _⟩ := ckE_ok hE
    obtain ⟨L, hL⟩ := ord_exists hnd
    have h1 := hL.1.length_eq
    have h2 := lkP_len g wd L (by omega)
    exact ⟨lkP g wd L, by omega, fun h => absurd hE h, fun _ M hM => by rw [ord_unique hM hL]⟩
  · exact ⟨[], by simp, fun _ => rfl, fun h => absurd h hE⟩
theorem lk_row {w w' : World} {v : Value} {wd hg : Int} {g : List Int} {T : List Tw} {H : List Hz} {P : List Pl} (hP0 : ckE wd hg g T H ≠ 0 → P = []) (hP1 : ckE wd hg g T H = 0 → ∀ L, Ord L T → lkP g wd L = P)
    (h1 : ckE wd hg g T H ≠ 0 → v = .slice none 0 0) (h2 : ckE wd hg g T H = 0 → ∃ L, Ord L T ∧ w'.ownsRow w.heap.size 53 2 v (lkP g wd L).length ((lkP g wd L).flatMap encI2)) : PlRow w' v P := by
  by_cases hE : ckE wd hg g T H = 0
  · obtain ⟨L, hL, h3⟩ := h2 hE
    rw [hP1 hE L hL] at h3
    exact PlRow.of_pairs h3
  · rw [hP0 hE, h1 hE]; exact .inl ⟨_, _, rfl, rfl⟩
set_option maxRecDepth 100000 in
set_option maxHeartbeats 8000000 in
theorem links_card (wd hg : Int) (o tv hz : Value) (g : List Int) (T : List Tw) (Z : List Hz) (w : World) (ho : INRow w o g) (hl : g.length ≤ 9223372036854775807) (ht : TwRow w tv T) (htl : T.length ≤ 9223372036854775807) (hh : HzRow w hz Z) (hhl : Z.length ≤ 9223372036854775807) :
    Calls Try.prog 5 #[coV wd hg o tv hz] w fun e w' => e = .returned (.bool true) ∧ Below w.heap.size w w' := by
  have HFW := Lib.hid (fun w' (h : Below w.heap.size w w') => few_any wd hg o tv hz g T Z w' (ho.keep h) (ht.keep h) (hh.keep h))
  obtain ⟨P, hPl, hP0, hP1⟩ := lk_pairs wd hg g T Z
  have HPL := Lib.hid hPl
  have HS1 := Lib.hid (fun w' (h : Below w.heap.size w w') => (Links_any wd hg o tv hz g T Z w' (ho.keep h) hl (ht.keep h) htl (hh.keep h) hhl).mono fun e w'' ⟨v, he, hb, h1, h2⟩ => (⟨v, he, hb, lk_row hP0 hP1 h1 h2⟩ : ∃ v, e = Ending.returned (.tuple #[v, .int .i64 (ckE wd hg g T Z)]) ∧ Below w'.heap.size w' w'' ∧ PlRow w'' v P))
  have HS2 := Lib.hid (fun w' (h : Below w.heap.size w w') => (rLinks_any wd hg o tv hz g T Z w' (ho.keep h) hl (ht.keep h) htl (hh.keep h) hhl).mono fun e w'' ⟨v, he, hb, h1, h2⟩ => (⟨v, he, hb, lk_row hP0 hP1 h1 h2⟩ : ∃ v, e = Ending.returned (.tuple #[v, .int .i64 (ckE wd hg g T Z)]) ∧ Below w'.heap.size w' w'' ∧ PlRow w'' v P))
  obtain ⟨E, hE⟩ : ∃ x, ckE wd hg g T Z = x := ⟨_, rfl⟩
  rw [hE] at HS1 HS2
  obtain ⟨fb, hfb⟩ : ∃ x, fewB g.length T.length Z.length = x := ⟨_, rfl⟩
  rw [hfb] at HFW
  obtain ⟨W1, hW1, hb0, hs1, hrd⟩ := co_reads w wd hg o tv hz
  have HW1 := Lib.hid hW1; have HB0 := Lib.hid hb0; have HRD := Lib.hid hrd
  obtain ⟨oa, oc, hof, _⟩ := ho.form
  clear hW1 hb0 hs1 hrd ho ht hh hl htl hhl hE hfb hof hPl hP0 hP1
  unfold coV at HFW HS1 HS2
  unfold coV
  go_enter Try.func5, Try.ntmps5
  go_wp2_with fail
  rw [← HW1.out]
  refine (head_any W1).mono ?_
  rintro e w2 ⟨rfl, hb⟩
  have HD2 := Lib.hid hb
  have HB2 := Lib.hid (HB0.out.trans (hb.mono HB0.out.size))
  clear hb
  obtain ⟨p0, p1, p2, p3, p4⟩ := HRD.out w2 HD2.out
  go_wp2_with fail
  refine (HFW.out _ HB2.out).mono ?_
  rintro e w3 ⟨rfl, hb⟩
  have HD3 := Lib.hid (HD2.out.trans (hb.mono HD2.out.size))
  have HB3 := Lib.hid (HB2.out.trans (hb.mono HB2.out.size))
  clear hb p0 p1 p2 p3 p4
  cases fb
  · go_wp2_with fail
    go_ret
    exact ⟨rfl, HB3.out⟩
  obtain ⟨p0, p1, p2, p3, p4⟩ := HRD.out _ HD3.out
  go_wp2_with fail
  refine (HS1.out _ HB3.out).mono ?_
  rintro e w4 ⟨v4, rfl, hb, hr4⟩
  have HD4 := Lib.hid (HD3.out.trans (hb.mono HD3.out.size))
  have HB4 := Lib.hid (HB3.out.trans (hb.mono HB3.out.size))
  have HR4 := Lib.hid hr4
  obtain ⟨a4, c4, rfl, _⟩ := hr4.form
  clear hb hr4 p0 p1 p2 p3 p4
  obtain ⟨p0, p1, p2, p3, p4⟩ := HRD.out _ HD4.out
  go_wp2_with fail
  refine (HS2.out _ HB4.out).mono ?_
  rintro e w5 ⟨v5, rfl, hb, hr5⟩
  have HD5 := Lib.hid (HD4.out.trans (hb.mono HD4.out.size))
  have HB5 := Lib.hid (HB4.out.trans (hb.mono HB4.out.size))
  have HR5 := Lib.hid hr5
  have HR4b := Lib.hid (HR4.out.keep hb)
  obtain ⟨a5, c5, rfl, hc5⟩ := hr5.form
  obtain ⟨a4', c4', h4', hc4⟩ := HR4b.out.form
  cases h4'
  have HC4 := Lib.hid hc4
  have HC5 := Lib.hid hc5
  clear hb hr5 hc4 hc5 p0 p1 p2 p3 p4
  have hP63 := HPL.out
  go_wp2_with fail
  go_loopw [8] (fun i wr => ∃ (k : Nat), k ≤ P.length ∧ i = .int .i64 k ∧ Hid (Below w5.heap.size w5 wr)) (fun i _ => P.length - (intOf i).toNat)
  case atStart => exact ⟨0, Nat.zero_le _, rfl, Lib.hid (Below.refl _ _)⟩
  case round =>
    obtain ⟨k, hk, rfl, hB⟩ := hrel
    by_cases hkl : k < P.length
    · obtain ⟨b, off, rfl, _, hb, c0, c1⟩ := HC4.out k hkl
      obtain ⟨b', off', rfl, _, hb', d0, d1⟩ := HC5.out k hkl
      have hki : (k : Int) < P.length := by omega
      have hk0 : (0 : Int) ≤ k := by omega
      have e0 := (hB.out.cell (p := ⟨b, _, none⟩) hb).trans c0
      have e1 := (hB.out.cell (p := ⟨b, _, none⟩) hb).trans c1
      have f0 := (hB.out.cell (p := ⟨b', _, none⟩) hb').trans d0
      have f1 := (hB.out.cell (p := ⟨b', _, none⟩) hb').trans d1
      obtain ⟨⟨x, y⟩, hx⟩ : ∃ x, P.getD k (0, 0) = x := ⟨_, rfl⟩
      rw [hx] at e0 e1 f0 f1
      simp only at e0 e1 f0 f1
      clear hx c0 c1 d0 d1 hb hb'
      have q1 := two_in x y
      have q2 := two_ne x y
      go_wp2_with fail
      go_quiet (fail)
      go_wp2_with fail
      go_roundw
      case rel => exact ⟨k + 1, by omega, by go_num, Lib.hid (below_drewN hB.out _)⟩
      case measure => simp [intOf]; omega
    · obtain rfl : k = P.length := by omega
      have HBF := Lib.hid (HB5.out.trans (hB.out.mono HB5.out.size))
      go_wp2_with fail
      go_ret
      exact ⟨rfl, HBF.out⟩
end Go.Proofs.Ytjllkmekchmmbaa
