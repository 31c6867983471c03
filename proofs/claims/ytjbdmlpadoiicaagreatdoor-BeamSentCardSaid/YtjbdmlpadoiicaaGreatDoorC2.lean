/- Faulted of package beam. -/
import Derived.Test.YtjbdmlpadoiicaaGreatDoorC1
import Derived.Test.YtjbdmlpadoiicaaGreatDoorB1
set_option linter.unusedVariables false
set_option linter.unusedSimpArgs false
namespace Go.Proofs.YtjbdmlpadoiicaaGreatDoor
open Go.RowKit Go.Shelf

theorem ownsRow_drewN {w : World} {base : Nat} {e : TypeId} {size : Nat} {v : Value} {n : Nat} {xs : List Value} (h : w.ownsRow base e size v n xs) (m : Nat) : (w.drewN m).ownsRow base e size v n xs := h
theorem cell_two_new' (w : World) (x y : Value) (t : TypeId) (j : Nat) (u : Value) (h : [x, y][j]? = some u) : (w.alloc (.cells #[x, y] t)).cell? ((⟨w.heap.size, 0, none⟩ : Addr).add j) = some u := by
  have e : (⟨w.heap.size, 0, none⟩ : Addr).add j = ⟨w.heap.size, j, none⟩ := by unfold Addr.add; split <;> simp_all
  rw [e, World.cell?_alloc_new]
  simpa using h

set_option maxRecDepth 100000 in
set_option maxHeartbeats 1000000 in
theorem faulted_any (s : ByteArray) (v : Value) (l : List Flt) (w : World) (hs : s.size ≤ maxLen) (hv : FRow w v l) (hl : l.length ≤ 1000000) :
    Calls Tryz.prog 23 #[.string s, v] w fun e w' => e = .returned (faultedV s.data.toList l) ∧ Below w.heap.size w w' := by
  by_cases hf : flashE s.data.toList 100 = 0
  · have hsz : s.size ≤ 100 := by have := flashE_le' hf; have := size_toList s; omega
    have BY := Lib.hid (byFlash_any s.size v l w (by omega) (by omega) hv hl)
    have HF := Lib.hid hf
    clear hf
    obtain ⟨a, cap, rfl, _⟩ := hv.form
    clear hv
    go_enter Tryz.func23, Tryz.ntmps23
    go_wp2_with fail
    refine (checkFlashes_any _ _ _ hs).mono ?_
    rintro e w' ⟨rfl, rfl⟩
    rw [HF.out]
    go_wp2_with fail
    refine BY.out.mono ?_
    rintro e w1 ⟨C, rfl, hC, hone, hrep, hb⟩
    clear BY
    have HI : Hid ((Tryz.prog.info? 110).map (·.size) = some C.size) := Lib.hid (infoBy.trans (by rw [hC]))
    have HZ : Hid (Tryz.zeroCells110.size = C.size) := Lib.hid (zeroBy_size.trans hC.symm)
    have HO := Lib.hid hone
    have HS := Lib.hid hC
    clear hone hC
    have hbx : Below w.heap.size w ((w1.alloc (.cells Tryz.zeroCells110 110)).setRow w1.heap.size C) := below_setRow (hb.alloc hb.size _) hb.size _
    have hcx : ((w1.alloc (.cells Tryz.zeroCells110 110)).setRow w1.heap.size C).heap[w1.heap.size]? = some (.cells C 110 (0, 0)) := setRow_heap _ _ _ _ _ _ (heap_alloc_new w1 _)
    by_cases hc : canE s.size l = 0
    · have HR := Lib.hid (hrep hc)
      have HCE := Lib.hid hc
      rw [hc]
      clear hrep hc
      go_wp2_with (((with_reducible refine wpList_store_row rfl 110 _ _ rfl w1.heap.size C ?_ ?_ 110 Tryz.zeroCells110 (heap_alloc_new w1 _) HI.out HZ.out HO.out ?_); exact rfl; exact rfl))
      obtain ⟨W0, hW0⟩ : ∃ W0, (w1.alloc (.cells Tryz.zeroCells110 110)).setRow w1.heap.size C = W0 := ⟨_, rfl⟩
      rw [hW0] at hbx hcx ⊢
      have hz1 : w1.heap.size < W0.heap.size := (Array.getElem?_eq_some_iff.1 hcx).1
      clear hW0
      obtain ⟨i0, hi, hz0, hz2, hz3⟩ := info_parts info_u8
      go_loopw [9, 10, 28, 41, 43, 54] (fun o _ i _ _ _ wr => ∃ k : Nat, k ≤ s.size ∧ i = .int .i64 k ∧ wr.ownsRow W0.heap.size 5 1 o (faultedK s.data.toList l k).length ((faultedK s.data.toList l k).map encU) ∧ Below W0.heap.size W0 wr) (fun _ _ i _ _ _ _ => s.size - (intOf i).toNat)
      case atStart => exact ⟨0, Nat.zero_le _, rfl, World.ownsRow_nil _ _ _ _, Below.refl _ _⟩
      case round =>
        obtain ⟨k, hk, rfl, hrow, hB⟩ := hrel
        by_cases hlt : k < s.size
        · have hbk : wr.heap[w1.heap.size]? = some (.cells C 110 (0, 0)) := (hB.block _ hz1).trans hcx
          obtain ⟨K, eK⟩ : ∃ K, (at? l (k : Int)).1 = K := ⟨_, rfl⟩
          obtain ⟨A, eA⟩ : ∃ A, (at? l (k : Int)).2 = A := ⟨_, rfl⟩
          have d0 : wr.cell? ⟨w1.heap.size, k * 2, none⟩ = some (.int .i64 K) := (cell_of_heap hbk _).trans (by rw [← eK]; exact (HR.out k (by omega)).1)
          have d1 : wr.cell? ⟨w1.heap.size, k * 2 + 1, none⟩ = some (.int .i64 A) := (cell_of_heap hbk _).trans (by rw [← eA]; exact (HR.out k (by omega)).2)
          have hlen := faultedK_length s.data.toList l k
          have hat : at? l (k : Int) = (K, A) := by rw [← eK, ← eA]
          have hsp : K ≠ 0 → covers k (K, A) = true ∧ widthZ K ≠ 0 ∧ 0 ≤ A ∧ A + widthZ K ≤ s.size := fun h => by
            have := at_spec HCE.out (k : Int) (by rw [eK]; exact h)
            rw [hat] at this; exact this.2
          have HP : Hid (pieceL s.data.toList l k = if K = 1 then [] else if K = 2 then [bat s k, bat s k] else if K = 3 then [bat s (2 * A + 1 - k).toNat] else [bat s k]) := Lib.hid (by
            unfold pieceL; rw [eK, eA]; rfl)
          have HQ := Lib.hid (faultedK_succ s.data.toList l k)
          obtain ⟨pk, epk⟩ : ∃ pk, faultedK s.data.toList l k = pk := ⟨_, rfl⟩
          rw [epk] at hrow hlen HQ
          have hbe := bat_eq s k hlt
          have BE := Lib.hid hbe
          have HSP := Lib.hid hsp
          clear epk eK eA hat hbk hsp hbe
          by_cases hK1 : K = 1
          · subst hK1
            have HPP : Hid (faultedK s.data.toList l (k + 1) = pk) := Lib.hid (by rw [HQ.out, HP.out]; simp)
            clear HQ HP HSP
            go_wp2
            go_roundw
            case rel => exact ⟨k + 1, by omega, by go_num, by rw [HPP.out]; exact hrow, hB⟩
            case measure => simp [intOf]; omega
          by_cases hK2 : K = 2
          · subst hK2
            have HPP : Hid (faultedK s.data.toList l (k + 1) = pk ++ [s[k], s[k]]) := Lib.hid (by rw [HQ.out, HP.out, BE.out]; simp)
            clear HQ HP HSP
            have hki : (k : Int) < s.size := by omega
            have hrow2 : ∀ m, ((wr.alloc (.cells #[.int .u8 s[k].toNat, .int .u8 s[k].toNat] 5)).drewN m).ownsRow W0.heap.size 5 1 u9 pk.length (pk.map encU) := fun m => ownsRow_drewN (hrow.alloc _) m
            have hcn : ∀ m, ∀ j u, [Value.int .u8 s[k].toNat, Value.int .u8 s[k].toNat][j]? = some u → ((wr.alloc (.cells #[.int .u8 s[k].toNat, .int .u8 s[k].toNat] 5)).drewN m).cell? ((⟨wr.heap.size, 0, none⟩ : Addr).add j) = some u := fun m j u h => (by rw [World.cell?_drewN]; exact cell_two_new' wr _ _ _ j u h)
            go_wp2_with fail
            refine wp_region_one 8 7 (wr.alloc (.cells #[.int .u8 s[k].toNat, .int .u8 s[k].toNat] 5)) (by kernel_rfl) (by kernel_rfl) (by decide) ?_
            simp only [List.take_succ_cons, List.take_zero, List.drop_succ_cons, List.drop_zero]
            iterate 7 (apply wpOne_step (by rfl) (by decide); (intro W _ m; go_simp; exact ⟨⟨_, rfl⟩, rfl⟩))
            (apply wpOne_turn (by rfl); (intro m; go_simp; exact ⟨⟨_, rfl⟩, rfl⟩))
            intro m
            simp only [Act.put, List.setIfInBounds_toArray, List.set_cons_succ, List.set_cons_zero]
            go_wp2_with (at_builtin; refine wpList_append_own _ rfl _ _ 105 rfl W0.heap.size 5 i0 (.int .u8 0) 1 1 Tryz.underlying105 hi hz0 hz2 hz3 rfl (by decide) _ _ _ rfl (hrow2 m) ⟨wr.heap.size, 0, none⟩ 2 2 [.int .u8 s[k].toNat, .int .u8 s[k].toNat] rfl rfl (hcn m) (by simp [Value.oneCell']) (by unfold maxLen; omega) (by omega) (by have := hB.size; simp; omega) ?_; intro v' w2 hown' hgrow _)
            go_roundw
            case rel => exact ⟨k + 1, by omega, by go_num, by rw [HPP.out]; simpa [encU] using hown', (below_drewN (hB.alloc hB.size _) m).grown hgrow (by have := hB.size; simp; omega) (fun k e => (hrow.lt k e).1)⟩
            case measure => simp [intOf]; omega
          by_cases hK3 : K = 3
          · subst hK3
            obtain ⟨hcv, hwz, ha0, ha1⟩ := HSP.out (by decide)
            have hcv' := (covers_iff hwz).1 hcv
            have hw2 : widthZ 3 = 2 := rfl
            rw [hw2] at hcv' ha1
            have hL := size_toList s
            obtain ⟨j, hj0⟩ : ∃ j : Nat, 2 * A + 1 - (k : Int) = j := ⟨(2 * A + 1 - k).toNat, by omega⟩
            have hj : j < s.size := by omega
            have HJ : Hid (bat s (2 * A + 1 - k).toNat = s[j]) := Lib.hid (by rw [bat_eq s j hj, hj0]; simp)
            have HPP : Hid (faultedK s.data.toList l (k + 1) = pk ++ [s[j]]) := Lib.hid (by rw [HQ.out, HP.out, if_neg (by decide), if_neg (by decide), if_pos rfl, HJ.out])
            have ha2 : 0 ≤ A := ha0
            have ha3 : A ≤ 100 := by omega
            have hj1 : (j : Int) < s.size := by omega
            clear HQ HP HSP hcv hwz hcv' hw2 hL ha1 ha0 HJ
            go_wp2_with (at_builtin; refine wpList_append_own _ rfl _ _ 105 rfl W0.heap.size 5 i0 (.int .u8 0) 1 1 Tryz.underlying105 hi hz0 hz2 hz3 rfl (by decide) _ _ _ rfl (hrow.alloc _) ⟨wr.heap.size, 0, none⟩ 1 1 [.int .u8 (s[j]'hj).toNat] rfl rfl (cell_one_new _ _ _) (by simp [Value.oneCell']) (by unfold maxLen; omega) (by omega) (by have := hB.size; simp; omega) ?_; intro v' w2 hown' hgrow _)
            go_roundw
            case rel => exact ⟨k + 1, by omega, by go_num, by rw [HPP.out]; simpa [encU] using hown', (hB.alloc hB.size _).grown hgrow (by have := hB.size; simp; omega) (fun k e => (hrow.lt k e).1)⟩
            case measure => simp [intOf]; omega
          · have hq1 : (K == 1) = false := by simpa using hK1
            have hq2 : (K == 2) = false := by simpa using hK2
            have hq3 : (K == 3) = false := by simpa using hK3
            have HPP : Hid (faultedK s.data.toList l (k + 1) = pk ++ [s[k]]) := Lib.hid (by rw [HQ.out, HP.out, BE.out]; simp [hK1, hK2, hK3])
            clear HQ HP HSP hK1 hK2 hK3
            go_wp2_with (at_builtin; refine wpList_append_own _ rfl _ _ 105 rfl W0.heap.size 5 i0 (.int .u8 0) 1 1 Tryz.underlying105 hi hz0 hz2 hz3 rfl (by decide) _ _ _ rfl (hrow.alloc _) ⟨wr.heap.size, 0, none⟩ 1 1 [.int .u8 s[k].toNat] rfl rfl (cell_one_new _ _ _) (by simp [Value.oneCell']) (by unfold maxLen; omega) (by omega) (by have := hB.size; simp; omega) ?_; intro v' w2 hown' hgrow _)
            go_roundw
            case rel => exact ⟨k + 1, by omega, by go_num, by rw [HPP.out]; simpa [encU] using hown', (hB.alloc hB.size _).grown hgrow (by have := hB.size; simp; omega) (fun k e => (hrow.lt k e).1)⟩
            case measure => simp [intOf]; omega
        · obtain rfl : k = s.size := by omega
          have hcv := conv_row hrow
          have HE : Hid (faultedV s.data.toList l = .tuple #[.string (B (faultedK s.data.toList l s.size)), .int .i64 0]) := Lib.hid (by
            have : faultedE s.data.toList l = 0 := by simp only [faultedE, HF.out, if_true]; exact HCE.out
            simp only [faultedV, this, if_true]; rfl)
          go_wp2
          go_ret2
          exact ⟨ret_val (by rw [HE.out]; rfl), hbx.trans (hB.mono hbx.size)⟩
    · have HE : Hid (faultedV s.data.toList l = .tuple #[.string ⟨#[]⟩, .int .i64 (canE s.size l)]) := Lib.hid (by
        have : faultedE s.data.toList l = canE s.size l := by simp [faultedE, HF.out]
        simp [faultedV, this, hc])
      have hne : (canE s.size l != 0) = true := by simpa using hc
      clear hc hrep
      go_wp2_with (((with_reducible refine wpList_store_row rfl 110 _ _ rfl w1.heap.size C ?_ ?_ 110 Tryz.zeroCells110 (heap_alloc_new w1 _) HI.out HZ.out HO.out ?_); exact rfl; exact rfl))
      go_ret2
      exact ⟨ret_val (by rw [HE.out]; rfl), hbx⟩
  · have HE : Hid (faultedV s.data.toList l = .tuple #[.string ⟨#[]⟩, .int .i64 (flashE s.data.toList 100)]) := Lib.hid (by
      have : faultedE s.data.toList l = flashE s.data.toList 100 := by simp [faultedE, hf]
      simp [faultedV, this, hf])
    have hne : (flashE s.data.toList 100 != 0) = true := by simpa using hf
    clear hf
    obtain ⟨a, cap, rfl, _⟩ := hv.form
    clear hv
    go_enter Tryz.func23, Tryz.ntmps23
    go_wp2_with fail
    refine (checkFlashes_any _ _ _ hs).mono ?_
    rintro e w' ⟨rfl, rfl⟩
    go_wp2
    go_ret2
    exact ⟨ret_val (by rw [HE.out]; rfl), Below.refl _ _⟩
end Go.Proofs.YtjbdmlpadoiicaaGreatDoor
