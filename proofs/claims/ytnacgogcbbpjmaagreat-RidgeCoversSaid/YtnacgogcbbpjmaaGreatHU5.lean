/- The reference's together, same and before. -/
import Derived.Test.YtnacgogcbbpjmaaGreatHU2
import Derived.Test.YtnacgogcbbpjmaaGreatHS1
import Derived.Test.YtnacgogcbbpjmaaGreatHN1
set_option linter.unusedVariables false
set_option linter.unusedSimpArgs false
namespace Go.Proofs.YtnacgogcbbpjmaaGreat
open Go Go.RowKit

/-- Whether one of the first towers of a set sees a place. -/
def tgK (F : Nat → Nat → Bool) (set : Nat) (i k : Nat) : Bool := (List.range i).any fun j => set.testBit j && F j k
theorem tgK_succ (F : Nat → Nat → Bool) (set i k : Nat) : tgK F set (i + 1) k = (tgK F set i k || (set.testBit i && F i k)) := by
  unfold tgK
  rw [List.range_succ, List.any_append]; simp
/-- The row that is being filled. -/
def TgW (Wb wr : World) (m : Nat) (h : Nat → Bool) : Prop := Below Wb.heap.size Wb wr ∧ ∃ C, wr.heap[Wb.heap.size]? = some (Obj.cells C 4 (0, 0)) ∧ C.size = m ∧ ∀ j, j < m → C[j]? = some (Value.bool (h j))
theorem TgW.set {Wb wr : World} {m k : Nat} {h : Nat → Bool} (hw : TgW Wb wr m h) (hk : k < m) (b : Bool) : TgW Wb (wr.setCell ⟨Wb.heap.size, k, none⟩ (.bool b)) m (fun j => if j = k then b else h j) := by
  obtain ⟨h1, C, h2, h3, h4⟩ := hw
  refine ⟨h1.setCell (p := ⟨Wb.heap.size, k, none⟩) (Nat.le_refl _) _, C.setIfInBounds k _, heap_same h2 k _, by simpa using h3, fun j hj => ?_⟩
  rw [Array.getElem?_setIfInBounds]
  by_cases e : k = j
  · subst e; rw [if_pos rfl, if_pos (by omega)]; simp
  · have e' : ¬ j = k := fun h => e h.symm
    rw [if_neg e]
    simp only [if_neg e']
    exact h4 j hj
theorem TgW.cell {Wb wr : World} {m k : Nat} {h : Nat → Bool} (hw : TgW Wb wr m h) (hk : k < m) : wr.cell? ⟨Wb.heap.size, k, none⟩ = some (.bool (h k)) := by
  obtain ⟨h1, C, h2, h3, h4⟩ := hw
  exact (cellH h2 k).trans (h4 k hk)
theorem TgW.free {Wb wr : World} {m k : Nat} {h : Nat → Bool} (hw : TgW Wb wr m h) : wr.frozen? ⟨Wb.heap.size, k, none⟩ = false := by
  obtain ⟨h1, C, h2, h3, h4⟩ := hw
  exact freeH h2 k
theorem TgW.congr {Wb wr : World} {m : Nat} {h h' : Nat → Bool} (hw : TgW Wb wr m h) (he : ∀ j, j < m → h j = h' j) : TgW Wb wr m h' := by
  obtain ⟨h1, C, h2, h3, h4⟩ := hw
  exact ⟨h1, C, h2, h3, fun j hj => by rw [← he j hj]; exact h4 j hj⟩
theorem TgW.start (W : World) (m : Nat) : TgW W (W.alloc (.cells (flsA m) 4)) m (fun _ => false) :=
  ⟨(Below.refl _ W).alloc (Nat.le_refl _) _, flsA m, heap_alloc_new _ _, by unfold flsA; rw [size_madeCells, Nat.mul_one], fun j hj => by
    unfold flsA madeCells
    simp [hj, Value.cells, Nat.mod_one]⟩
/-- A row of booleans that reads as a list. -/
def BlRow (w : World) (r m : Nat) (f : Nat → Bool) : Prop := r < w.heap.size ∧ ∀ j, j < m → w.cell? ⟨r, j, none⟩ = some (.bool (f j))
theorem BlRow.keep {w w' : World} {r m : Nat} {f : Nat → Bool} (h : BlRow w r m f) (hb : Below w.heap.size w w') : BlRow w' r m f :=
  ⟨Nat.lt_of_lt_of_le h.1 hb.size, fun j hj => (hb.cell (p := ⟨r, _, none⟩) h.1).trans (h.2 j hj)⟩
theorem bit_div (s i : Nat) : (s / 2 ^ i % 2 = 1) ↔ s.testBit i = true := by
  rw [Nat.testBit_eq_decide_div_mod_eq]; simp
theorem bit_walk (s q : Nat) (hs : s < 4096) (hq : q ≤ 12) : ((wrap64 ((s : Int) / (2 : Int) ^ q)).tmod 2 == 1) = s.testBit q := by
  have h1 : s / 2 ^ q ≤ s := Nat.div_le_self _ _
  have h2 := bit_div s q
  rw [pow_cast, ← Int.natCast_ediv]
  obtain ⟨D, hD⟩ : ∃ D, s / 2 ^ q = D := ⟨_, rfl⟩
  rw [hD] at h1 h2 ⊢
  rw [w64 (by omega), Int.tmod_eq_emod_of_nonneg (by omega), Bool.eq_iff_iff, ← h2]
  simp only [beq_iff_eq]
  omega
set_option maxRecDepth 100000 in
set_option maxHeartbeats 8000000 in
theorem together_any (v : Value) (N m : Nat) (F : Nat → Nat → Bool) (s : Nat) (w : World) (h : BbRow w v N m F) (hs : s < 4096) (hN : N ≤ 12) (hm : m ≤ 2401) :
    Calls Tryz.prog 58 #[v, .int .i64 (s : Nat), .int .i64 (m : Nat)] w fun e w' => ∃ r, e = .returned (.slice (some ⟨r, 0, none⟩) m m) ∧ Below w.heap.size w w' ∧ BlRow w' r m (tgK F s N) := by
  obtain ⟨a, cap, rfl, hc⟩ := h
  have HC := Lib.hid hc
  have hmk := mk_bools m hm
  have HS0 := Lib.hid (TgW.start w m)
  have HN12 := Lib.hid hN
  have HM := Lib.hid hm
  clear hc
  go_enter Tryz.func58, Tryz.ntmps58
  go_wp2_with fail
  clear hmk
  go_loopw [8] (fun i wr => ∃ (q : Nat), q ≤ N ∧ i = .int .i64 q ∧ Hid (TgW w wr m (tgK F s q))) (fun i _ => N - (intOf i).toNat)
  case atStart => exact ⟨0, Nat.zero_le _, rfl, Lib.hid (HS0.out.congr fun j hj => by simp [tgK])⟩
  case round =>
    obtain ⟨q, hq, rfl, hW⟩ := hrel
    by_cases hql : q < N
    · obtain ⟨b, off, rfl, hb, r, hr, hrs, hj⟩ := HC.out q hql
      have hqi : (q : Int) < N := by omega
      have hq0 : (0 : Int) ≤ q := by omega
      have hn12 := HN12.out
      have hmin : min ((q : Int).toNat) 64 = q := by omega
      have hp := pow_bd (show q ≤ 12 by omega)
      have hp0 := Nat.two_pow_pos q
      have hpn : ¬ ((2 : Int) ^ q = 0) := by rw [pow_cast]; omega
      have hsh : IntKind.i64.wrap ((2 : Int) ^ q) = (2 : Int) ^ q := by rw [pow_cast]; exact IntWalk.i64_in _ (by omega)
      have hsh2 : wrap64 ((2 : Int) ^ q) = (2 : Int) ^ q := by rw [pow_cast]; exact w64 (by omega)
      have hbw := bit_walk s q hs (by omega)
      have HTS := Lib.hid (fun j => tgK_succ F s q j)
      obtain ⟨tb, htb⟩ : ∃ b, s.testBit q = b := ⟨_, rfl⟩
      rw [htb] at hbw HTS
      have HCE := Lib.hid (show b < w.heap.size ∧ r < w.heap.size ∧ w.cell? ⟨b, off + q, none⟩ = some (.slice (some ⟨r, 0, none⟩) m m) ∧ ∀ j, j < m → w.cell? ⟨r, j, none⟩ = some (.bool (F q j)) from ⟨hb, hrs, hr, hj⟩)
      clear hb hr hrs hj hp hp0 htb
      obtain ⟨Wo, hWo⟩ : ∃ X, X = wr := ⟨_, rfl⟩
      subst hWo
      have hm2 := HM.out
      go_wp2_with fail
      go_loopw [9] (fun kk wr => ∃ (k : Nat), k ≤ m ∧ kk = .int .i64 k ∧ Hid (k = 0 ∨ tb = true) ∧ Hid (TgW w wr m (fun j => if j < k then tgK F s (q + 1) j else tgK F s q j))) (fun kk _ => m - (intOf kk).toNat)
      case atStart => exact ⟨0, Nat.zero_le _, rfl, Lib.hid (.inl rfl), Lib.hid (hW.out.congr fun j hj => by simp)⟩
      case round =>
        clear hW
        obtain ⟨k, hk, rfl, hbit, hW⟩ := hrel
        by_cases hkm : k < m
        · have hki : (k : Int) < m := by omega
          have hk0 : (0 : Int) ≤ k := by omega
          cases tb
          · have hk00 : k = 0 := by rcases hbit.out with h | h; exact h; cases h
            have HN : Hid (TgW w wr m (tgK F s (q + 1))) := Lib.hid (hW.out.congr fun j hj => by subst hk00; rw [HTS.out]; simp)
            clear hW hbit
            go_wp2_with fail
            go_roundw
            case rel => exact ⟨q + 1, by omega, by go_num, HN⟩
            case measure => simp [intOf]; omega
          · have e0 := hW.out.cell hkm
            have ef := hW.out.free (k := k)
            rw [if_neg (Nat.lt_irrefl k)] at e0
            have HTK := HTS.out k
            obtain ⟨hb, hhb⟩ : ∃ b, tgK F s q k = b := ⟨_, rfl⟩
            rw [hhb] at e0 HTK
            have HN : Hid (TgW w (wr.setCell ⟨w.heap.size, k, none⟩ (.bool (hb || F q k))) m (fun j => if j < k + 1 then tgK F s (q + 1) j else tgK F s q j)) := Lib.hid ((hW.out.set hkm _).congr fun j hj => by
              by_cases e : j = k
              · subst e
                rw [if_pos rfl, if_pos (by omega), HTK]; simp
              · rw [if_neg e]
                by_cases h : j < k
                · rw [if_pos h, if_pos (by omega)]
                · rw [if_neg h, if_neg (by omega)])
            obtain ⟨hb1, hr1, c1, c2⟩ := HCE.out
            have e1 := (hW.out.1.cell (p := ⟨b, _, none⟩) hb1).trans c1
            have e2 := (hW.out.1.cell (p := ⟨r, _, none⟩) hr1).trans (c2 k hkm)
            obtain ⟨fb, hfb⟩ : ∃ x, F q k = x := ⟨_, rfl⟩
            rw [hfb] at e2 HN
            clear HTK hhb hb1 hr1 c1 c2 hfb hW
            cases hb
            · go_wp2_with fail
              go_roundw
              case rel => exact ⟨k + 1, by omega, by go_num, Lib.hid (.inr (by trivial)), by simpa using HN⟩
              case measure => simp [intOf]; omega
            · go_wp2_with fail
              go_roundw
              case rel => exact ⟨k + 1, by omega, by go_num, Lib.hid (.inr (by trivial)), by simpa using HN⟩
              case measure => simp [intOf]; omega
        · obtain rfl : k = m := by omega
          have HN : Hid (TgW w wr k (tgK F s (q + 1))) := Lib.hid (hW.out.congr fun j hj => by simp [hj])
          clear hW hbit
          go_wp2_with fail
          go_roundw
          case rel => exact ⟨q + 1, by omega, by go_num, HN⟩
          case measure => simp [intOf]; omega
    · obtain rfl : q = N := by omega
      go_wp2_with fail
      go_ret
      obtain ⟨h1, C, h2, h3, h4⟩ := hW.out
      exact ⟨_, rfl, h1, (Array.getElem?_eq_some_iff.1 h2).1, fun j hj => (cellH h2 j).trans (h4 j hj)⟩
/-- Two rows that read alike. -/
def smB (f g : Nat → Bool) (m : Nat) : Bool := (List.range m).all fun j => f j == g j
set_option maxRecDepth 100000 in
set_option maxHeartbeats 4000000 in
theorem same_any (p q m : Nat) (f g : Nat → Bool) (w : World) (h1 : BlRow w p m f) (h2 : BlRow w q m g) (hm : m ≤ 1000000) :
    Calls Tryz.prog 57 #[.slice (some ⟨p, 0, none⟩) m m, .slice (some ⟨q, 0, none⟩) m m] w fun e w' => e = .returned (.bool (smB f g m)) ∧ Below w.heap.size w w' := by
  have H1 := Lib.hid h1
  have H2 := Lib.hid h2
  clear h1 h2
  go_enter Tryz.func57, Tryz.ntmps57
  go_wp2_with fail
  go_loopw [5] (fun i wr => ∃ (k : Nat), k ≤ m ∧ i = .int .i64 k ∧ Hid (∀ j, j < k → f j = g j) ∧ Hid (Below w.heap.size w wr)) (fun i _ => m - (intOf i).toNat)
  case atStart => exact ⟨0, Nat.zero_le _, rfl, Lib.hid (fun j hj => by omega), Lib.hid (Below.refl _ _)⟩
  case round =>
    obtain ⟨k, hk, rfl, hT, hB⟩ := hrel
    by_cases hkl : k < m
    · have hki : (k : Int) < m := by omega
      have hk0 : (0 : Int) ≤ k := by omega
      have e0 := (hB.out.cell (p := ⟨p, _, none⟩) H1.out.1).trans (H1.out.2 k hkl)
      have e1 := (hB.out.cell (p := ⟨q, _, none⟩) H2.out.1).trans (H2.out.2 k hkl)
      by_cases he : f k = g k
      · have HN : Hid (∀ j, j < k + 1 → f j = g j) := Lib.hid (fun j hj => by
          by_cases e : j = k
          · subst e; exact he
          · exact hT.out j (by omega))
        obtain ⟨fb, hfb⟩ : ∃ x, f k = x := ⟨_, rfl⟩
        rw [hfb] at e0 he
        rw [← he] at e1
        clear he hfb
        cases fb
        all_goals
          go_wp2_with fail
          go_quiet (fail)
          go_wp2_with fail
          go_roundw
          case rel => exact ⟨k + 1, by omega, by go_num, HN, Lib.hid (below_drewN hB.out _)⟩
          case measure => simp [intOf]; omega
      · have HF : Hid (smB f g m = false) := Lib.hid (by
          unfold smB
          rw [List.all_eq_false]
          exact ⟨k, List.mem_range.2 hkl, by simpa using he⟩)
        obtain ⟨fb, hfb⟩ : ∃ x, f k = x := ⟨_, rfl⟩
        obtain ⟨gb, hgb⟩ : ∃ x, g k = x := ⟨_, rfl⟩
        rw [hfb] at e0 he
        rw [hgb] at e1 he
        have hgf : gb = !fb := by cases fb <;> cases gb <;> simp_all
        subst hgf
        clear he hfb hgb
        cases fb
        all_goals
          go_wp2_with fail
          go_quiet (fail)
          go_wp2_with fail
          go_ret
          exact ⟨by rw [HF.out]; rfl, below_drewN hB.out _⟩
    · obtain rfl : k = m := by omega
      have HT : Hid (smB f g k = true) := Lib.hid (by
        unfold smB
        rw [List.all_eq_true]
        exact fun j hj => by simpa using hT.out j (List.mem_range.1 hj))
      go_wp2_with fail
      go_ret
      exact ⟨by rw [HT.out]; rfl, hB.out⟩
theorem lx_drop {a b : List Int} {k : Nat} (ha : k < a.length) (hb : k < b.length) : lxB (a.drop k) (b.drop k) = if a.getD k 0 = b.getD k 0 then lxB (a.drop (k + 1)) (b.drop (k + 1)) else decide (a.getD k 0 < b.getD k 0) := by
  rw [List.drop_eq_getElem_cons ha, List.drop_eq_getElem_cons hb, lxB]
  simp [List.getD_eq_getElem?_getD, ha, hb]
set_option maxRecDepth 100000 in
set_option maxHeartbeats 4000000 in
theorem before_any (v1 v2 : Value) (a b : List Int) (w : World) (h1 : INRow w v1 a) (h2 : INRow w v2 b) (ha : a.length ≤ 1000000) (hb : b.length ≤ 1000000) :
    Calls Tryz.prog 61 #[v1, v2] w fun e w' => e = .returned (.bool (bfB a b)) ∧ Below w.heap.size w w' := by
  obtain ⟨oa, ocap, rfl, hc1⟩ := h1.form
  obtain ⟨pa, pcap, rfl, hc2⟩ := h2.form
  have HC1 := Lib.hid hc1
  have HC2 := Lib.hid hc2
  clear hc1 hc2 h1 h2
  by_cases hl : a.length = b.length
  case neg =>
    have HB : Hid (bfB a b = decide (a.length < b.length)) := Lib.hid (by unfold bfB; rw [if_neg hl])
    have hq : ((a.length : Int) != (b.length : Int)) = true := by simp; omega
    clear hl
    go_enter Tryz.func61, Tryz.ntmps61
    go_wp2_with fail
    go_ret
    exact ⟨by rw [HB.out]; first | rfl | simp, Below.refl _ _⟩
  have HB : Hid (bfB a b = lxB (a.drop 0) (b.drop 0)) := Lib.hid (by unfold bfB; rw [if_pos hl]; simp)
  have HL := Lib.hid hl
  have HBL : Hid (b.length = a.length) := Lib.hid hl.symm
  rw [← hl]
  rw [← hl] at hb
  clear hl
  go_enter Tryz.func61, Tryz.ntmps61
  go_wp2_with fail
  go_loopw [5] (fun i wr => ∃ (k : Nat), k ≤ a.length ∧ i = .int .i64 k ∧ Hid (bfB a b = lxB (a.drop k) (b.drop k)) ∧ Hid (Below w.heap.size w wr)) (fun i _ => a.length - (intOf i).toNat)
  case atStart => exact ⟨0, Nat.zero_le _, rfl, HB, Lib.hid (Below.refl _ _)⟩
  case round =>
    clear HB
    obtain ⟨k, hk, rfl, hT, hB⟩ := hrel
    by_cases hkl : k < a.length
    · obtain ⟨p, off, rfl, hp, c0⟩ := HC1.out k hkl
      obtain ⟨p', off', rfl, hp', d0⟩ := HC2.out k (by rw [HBL.out]; exact hkl)
      have hki : (k : Int) < a.length := by omega
      have hk0 : (0 : Int) ≤ k := by omega
      have e0 := (hB.out.cell (p := ⟨p, _, none⟩) hp).trans c0
      have f0 := (hB.out.cell (p := ⟨p', _, none⟩) hp').trans d0
      have HD := Lib.hid (lx_drop (a := a) (b := b) (k := k) hkl (by rw [HBL.out]; exact hkl))
      obtain ⟨x, hx⟩ : ∃ x, a.getD k 0 = x := ⟨_, rfl⟩
      obtain ⟨y, hy⟩ : ∃ x, b.getD k 0 = x := ⟨_, rfl⟩
      rw [hx] at e0 HD
      rw [hy] at f0 HD
      clear hx hy c0 d0 hp hp'
      by_cases he : x = y
      · subst he
        have HN : Hid (bfB a b = lxB (a.drop (k + 1)) (b.drop (k + 1))) := Lib.hid (by rw [hT.out, HD.out, if_pos rfl])
        clear HD
        go_wp2_with fail
        go_quiet (fail)
        go_wp2_with fail
        go_roundw
        case rel => exact ⟨k + 1, by omega, by go_num, HN, Lib.hid (below_drewN hB.out _)⟩
        case measure => simp [intOf]; omega
      · have HN : Hid (bfB a b = decide (x < y)) := Lib.hid (by rw [hT.out, HD.out, if_neg he])
        have hq : (x != y) = true := by simpa using he
        clear HD he
        go_wp2_with fail
        go_quiet (fail)
        go_wp2_with fail
        go_quiet (fail)
        go_wp2_with fail
        go_ret
        exact ⟨by rw [HN.out]; rfl, below_drewN (below_drewN hB.out _) _⟩
    · obtain rfl : k = a.length := by omega
      have HF : Hid (bfB a b = false) := Lib.hid (by rw [hT.out, List.drop_length, ← HBL.out, List.drop_length]; rfl)
      go_wp2_with fail
      go_ret
      exact ⟨by rw [HF.out]; rfl, hB.out⟩
end Go.Proofs.YtnacgogcbbpjmaaGreat
