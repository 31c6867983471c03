/- The reference's Faults. (Written by tools/genV1.py.) -/
import Derived.Test.YtjbdmlpadoiicaaGreatDoorV0
import Derived.Test.YtjbdmlpadoiicaaGreatDoorU0
import Derived.OwnWalk
import Derived.Laws.OwnMore
import Derived.Deep.AppendLies
set_option linter.unusedVariables false
set_option linter.unusedSimpArgs false
namespace Go.Proofs.YtjbdmlpadoiicaaGreatDoor
open Go.RowKit Go.Shelf

theorem info_rows : (Tryz.prog.info? 48).map (fun i => (i.zero, i.size, i.bytes)) = some (some (.slice none 0 0), 1, 24) := by kernel_rfl
theorem info_ints : (Tryz.prog.info? 3).map (fun i => (i.zero, i.size, i.bytes)) = some (some (.int .i64 0), 1, 8) := by kernel_rfl
theorem Tab.put' {w : World} {tb : Nat} {s r : List UInt8} {lo : Nat} {K K' : Nat → Nat → Prop} {rb : Nat → Nat} (h : Tab w tb s r lo K rb) {q k R : Nat} (hR : rb q = R) (h1 : lo ≤ q) (h2 : q ≤ s.length) (h3 : k ≤ r.length) (x : Int)
    (hk : ∀ a b, K' a b → K a b ∨ (a = q ∧ b = k)) (hx : K' q k → x = eT s r q k) : Tab (w.setCell ⟨R, k, none⟩ (.int .i64 x)) tb s r lo K' rb := by
  subst hR; exact h.put h1 h2 h3 x hk hx
theorem Tab.start {w1 : World} {tb : Nat} {s r : List UInt8} {base : Nat} (hrow : w1.ownsRow base 48 1 (.slice (some ⟨tb, 0, none⟩) (s.length + 1) (s.length + 1)) (s.length + 1) (List.replicate (s.length + 1) (.slice none 0 0))) :
    Tab w1 tb s r (s.length + 1) (fun a _ => s.length + 1 ≤ a) (fun _ => 0) := by
  refine ⟨?_, fun a h1 h2 => by omega⟩
  rcases hrow.2 with ⟨h0, _⟩ | ⟨g, cap, cur, hv, _, hgb, hn, _, hcs, hxs⟩
  · cases h0
  · cases hv
    exact ⟨cur, hgb, by omega, fun a h1 h2 => by omega⟩
theorem Tab.most {w : World} {tb : Nat} {s r : List UInt8} {q : Nat} {rb : Nat → Nat} (h : Tab w tb s r q (fun a _ => q + 1 ≤ a) rb) : Tab w tb s r q (fun a b => q < a ∨ (a = q ∧ r.length + 1 ≤ b)) rb := by
  refine ⟨h.outer, fun a h1 h2 => ?_⟩
  obtain ⟨g1, g2, D, g3, g4, g5⟩ := h.rows a h1 h2
  exact ⟨g1, g2, D, g3, g4, fun b hb => by obtain ⟨x, e, k⟩ := g5 b hb; exact ⟨x, e, fun c => k (by omega)⟩⟩

set_option maxRecDepth 100000 in
set_option maxHeartbeats 16000000 in
theorem rFaults_any (s r : List UInt8) (w : World) (hs : s.length ≤ 100) (hr : r.length ≤ 100) :
    Calls Tryz.prog 45 #[.string (B s), .string (B r)] w fun e w' => e = .returned (.int .i64 (eT s r 0 0)) ∧ Below w.heap.size w w' := by
  obtain ⟨i1, hi1, hz1, hs1, hb1⟩ := info_parts info_rows
  obtain ⟨i2, hi2, hz2, hs2, hb2⟩ := info_parts info_ints
  go_enter Tryz.func45, Tryz.ntmps45
  go_wp2_with (at_make; refine wpList_make_full _ rfl _ _ 139 rfl w.heap.size 48 i1 (.slice none 0 0) 1 Tryz.underlying139 hi1 hz1 hs1 .i64 .i64 _ _ (s.length + 1) rfl rfl (by omega) (by omega) (by rw [hb1]; omega) (by unfold maxLen; omega) (Nat.le_refl _) ?_; intro w1 hown1 hgrow1)
  rw [show (Value.slice none 0 0).cells = #[.slice none 0 0] from rfl, Nat.mul_one, toList_madeCells_one] at hown1
  have T0 := Tab.start (r := r) hown1
  have hB1 : Below w.heap.size w w1 := (Below.refl _ w).grown hgrow1 (Nat.le_refl _) (fun k e => by cases e)
  have hsz1 : w.heap.size < w1.heap.size := by
    obtain ⟨C, hC, _⟩ := T0.outer; exact (Array.getElem?_eq_some_iff.1 hC).1
  have HT0 := Lib.hid T0
  have HB1 := Lib.hid hB1
  clear hown1 hgrow1 T0 hB1
  go_loopw [6] (fun i wr => ∃ (p : Nat) (I : Int) (rb : Nat → Nat), i = .int .i64 I ∧ I = (p : Int) - 1 ∧ p ≤ s.length + 1 ∧ Hid (Tab wr w.heap.size s r p (fun a _ => p ≤ a) rb) ∧ Hid (∀ a, p ≤ a → a ≤ s.length → rb a < wr.heap.size) ∧ Hid (Below w.heap.size w wr) ∧ w.heap.size < wr.heap.size) (fun i _ => (intOf i + 1).toNat)
  case atStart => exact ⟨s.length + 1, _, fun _ => 0, rfl, by omega, Nat.le_refl _, HT0, Lib.hid (fun a h1 h2 => by omega), HB1, hsz1⟩
  case round =>
    obtain ⟨p, I, rb, rfl, hI, hp, hT, hR, hB, hsz⟩ := hrel
    clear HT0 HB1 hsz1
    by_cases hp0 : p = 0
    · subst hp0
      obtain rfl : I = -1 := by omega
      have c0 := hT.out.row (a := 0) (Nat.le_refl _) (by omega)
      obtain ⟨⟨x, c1, hx⟩, _⟩ := hT.out.spot (a := 0) (b := 0) (Nat.le_refl _) (by omega) (by omega)
      have HX := Lib.hid (hx (Nat.le_refl _))
      obtain ⟨R, eR⟩ : ∃ R, rb 0 = R := ⟨_, rfl⟩
      rw [eR] at c0 c1
      clear hx eR hI
      go_wp2_with fail
      go_ret
      exact ⟨ret_int HX.out, hB.out⟩
    obtain ⟨q, rfl⟩ : ∃ q, p = q + 1 := ⟨p - 1, by omega⟩
    obtain rfl : I = (q : Int) := by omega
    have hqn : q ≤ s.length := by omega
    obtain ⟨C, hC, hCs, _⟩ := hT.out.outer
    obtain ⟨vq, hvq⟩ : ∃ v, C[q]? = some v := ⟨_, Array.getElem?_eq_getElem (by omega)⟩
    have hc0 : wr.cell? ⟨w.heap.size, q, none⟩ = some vq := by rw [cell_of_heap hC]; exact hvq
    have hf0 : wr.frozen? ⟨w.heap.size, q, none⟩ = false := free_of_heap hC q
    have hqi : (q : Int) < (s.length : Int) + 1 := by omega
    clear hC hCs hvq hI hp hp0
    go_wp2_with (at_make; refine wpList_make_full _ rfl _ _ 48 rfl wr.heap.size 3 i2 (.int .i64 0) 1 Tryz.underlying48 hi2 hz2 hs2 .i64 .i64 _ _ (r.length + 1) rfl rfl (by omega) (by omega) (by rw [hb2]; omega) (by unfold maxLen; omega) (Nat.le_refl _) ?_; intro w2 hown2 hgrow2; have hc1 : w2.cell? ⟨w.heap.size, q, none⟩ = some vq := (hgrow2.cell_far ⟨w.heap.size, q, none⟩ hsz (by simp)).trans hc0; have hf1 : w2.frozen? ⟨w.heap.size, q, none⟩ = false := (hgrow2.frozen_far ⟨w.heap.size, q, none⟩ hsz (by simp)).trans hf0)
    rw [show (Value.int .i64 0).cells = #[.int .i64 0] from rfl, Nat.mul_one, toList_madeCells_one] at hown2
    have T2 := hT.out.new hqn hsz hR.out hgrow2 hown2 (fun a b h => h)
    have hB2 : Below w.heap.size w (w2.setCell ⟨w.heap.size, q, none⟩ (.slice (some ⟨wr.heap.size, 0, none⟩) (r.length + 1) (r.length + 1))) := (hB.out.grown hgrow2 (by have := hB.out.size; omega) (fun k e => by cases e)).setCell (p := ⟨w.heap.size, q, none⟩) (Nat.le_refl _) _
    have hsz2 : wr.heap.size < (w2.setCell ⟨w.heap.size, q, none⟩ (.slice (some ⟨wr.heap.size, 0, none⟩) (r.length + 1) (r.length + 1))).heap.size := by
      obtain ⟨_, _, D, hD, _⟩ := T2.rows q (Nat.le_refl _) hqn
      rw [if_pos rfl] at hD
      exact (Array.getElem?_eq_some_iff.1 hD).1
    have HRB : Hid (∀ a, q ≤ a → a ≤ s.length → (if a = q then wr.heap.size else rb a) < (w2.setCell ⟨w.heap.size, q, none⟩ (.slice (some ⟨wr.heap.size, 0, none⟩) (r.length + 1) (r.length + 1))).heap.size) := Lib.hid (fun a h1 h2 => by
      split
      · exact hsz2
      · have := hR.out a (by omega) h2; omega)
    obtain ⟨W2, hW2⟩ : ∃ W2, w2.setCell ⟨w.heap.size, q, none⟩ (.slice (some ⟨wr.heap.size, 0, none⟩) (r.length + 1) (r.length + 1)) = W2 := ⟨_, rfl⟩
    rw [hW2] at T2 hB2 hsz2 HRB ⊢
    obtain ⟨rc, erc⟩ : ∃ rc : Nat → Nat, (fun a => if a = q then wr.heap.size else rb a) = rc := ⟨_, rfl⟩
    have HRB2 : Hid (∀ a, q ≤ a → a ≤ s.length → rc a < W2.heap.size) := Lib.hid (fun a h1 h2 => by rw [← erc]; exact HRB.out a h1 h2)
    rw [erc] at T2
    have HT2 := Lib.hid T2
    have HB2 := Lib.hid hB2
    have hszW : w.heap.size < W2.heap.size := by omega
    clear T2 hB2 hW2 hc1 hf1 hc0 hf0 hown2 hgrow2 erc HRB hT hR hB
    go_loopw [7] (fun kk wj => ∃ (p2 : Nat) (J : Int), kk = .int .i64 J ∧ J = (p2 : Int) - 1 ∧ p2 ≤ r.length + 1 ∧ Hid (Tab wj w.heap.size s r q (fun a b => q < a ∨ (a = q ∧ p2 ≤ b)) rc) ∧ Hid (Below w.heap.size w wj) ∧ wj.heap.size = W2.heap.size) (fun kk _ => (intOf kk + 1).toNat)
    case atStart => exact ⟨r.length + 1, _, rfl, by omega, Nat.le_refl _, Lib.hid (HT2.out.most), HB2, rfl⟩
    case round =>
      obtain ⟨p2, J, rfl, hJ, hp2, hT, hB, hzj⟩ := hrel
      clear HT2 HB2
      by_cases hp0 : p2 = 0
      · subst hp0
        obtain rfl : J = -1 := by omega
        have HT3 := Lib.hid (hT.out.weak (K' := fun a _ => q ≤ a) (fun a b h => by omega))
        have HRB3 : Hid (∀ a, q ≤ a → a ≤ s.length → rc a < wr.heap.size) := Lib.hid (fun a h1 h2 => by rw [hzj]; exact HRB2.out a h1 h2)
        have hsz3 : w.heap.size < wr.heap.size := by omega
        have HZ := Lib.hid hzj
        clear hJ hp2 hzj
        go_wp2_with fail
        go_roundw
        case rel => exact ⟨q, (q : Int) - 1, rc, rfl, rfl, by omega, HT3, HRB3, hB, hsz3⟩
        case measure => simp [intOf]
      obtain ⟨k, rfl⟩ : ∃ k, p2 = k + 1 := ⟨p2 - 1, by omega⟩
      obtain rfl : J = (k : Int) := by omega
      have HZ := Lib.hid hzj
      clear hzj
      have hkm : k ≤ r.length := by omega
      have ht := hT.out.row (a := q) (Nat.le_refl _) hqn
      obtain ⟨⟨x0, hc, _⟩, hf⟩ := hT.out.spot (a := q) (b := k) (Nat.le_refl _) hqn hkm
      obtain ⟨ht0, hmono, _⟩ := hT.out.rows q (Nat.le_refl _) hqn
      have HMO := Lib.hid hmono
      obtain ⟨R0, eR0⟩ : ∃ R, rc q = R := ⟨_, rfl⟩
      have ER0 := Lib.hid eR0
      rw [eR0] at ht hc hf ht0
      have n0 : ¬ w.heap.size = R0 := by omega
      have n0' : ¬ R0 = w.heap.size := by omega
      have hk0 : (0 : Int) ≤ k := by omega
      have hkb : (k : Int) < (r.length : Int) + 1 := by omega
      have hq0 : (0 : Int) ≤ q := by omega
      clear hmono eR0 hJ hp2 hp0
      have HPUT : Hid (∀ x : Int, x = eT s r q k → ∀ W', Tab W' w.heap.size s r q (fun a b => q < a ∨ (a = q ∧ k + 1 ≤ b)) rc → Tab (W'.setCell ⟨R0, k, none⟩ (.int .i64 x)) w.heap.size s r q (fun a b => q < a ∨ (a = q ∧ k ≤ b)) rc) :=
        Lib.hid (fun x hx W' hW => hW.put' ER0.out (Nat.le_refl _) hqn hkm x (fun a b h => by omega) (fun _ => hx))
      have HKEEP : Hid (∀ x : Int, ∀ W', Tab W' w.heap.size s r q (fun a b => q < a ∨ (a = q ∧ k + 1 ≤ b)) rc → Tab (W'.setCell ⟨R0, k, none⟩ (.int .i64 x)) w.heap.size s r q (fun a b => q < a ∨ (a = q ∧ k + 1 ≤ b)) rc) :=
        Lib.hid (fun x W' hW => hW.put' ER0.out (Nat.le_refl _) hqn hkm x (fun a b h => .inl h) (fun h => by omega))
      have hR0 : w.heap.size ≤ R0 := by omega
      by_cases hq : q = s.length
      · have hqe : ((q : Int) == s.length) = true := by rw [hq]; simp
        by_cases hk : k = r.length
        · have hke : ((k : Int) == r.length) = true := by rw [hk]; simp
          have HX : Hid ((0 : Int) = eT s r q k) := Lib.hid (by rw [hq, eT_last, if_pos hk])
          clear hq hk
          go_wp2_with fail
          go_roundw
          case rel => exact ⟨k, (k : Int) - 1, rfl, rfl, by omega, Lib.hid (HPUT.out _ HX.out _ (HKEEP.out _ _ hT.out)), Lib.hid ((hB.out.setCell (p := ⟨R0, k, none⟩) hR0 _).setCell (p := ⟨R0, k, none⟩) hR0 _), by simp [HZ.out]⟩
          case measure => simp [intOf]
        · have hke : ((k : Int) == r.length) = false := by rw [beq_eq_false_iff_ne]; omega
          have HX : Hid ((1000 : Int) = eT s r q k) := Lib.hid (by rw [hq, eT_last, if_neg hk])
          clear hq hk
          go_wp2_with fail
          go_roundw
          case rel => exact ⟨k, (k : Int) - 1, rfl, rfl, by omega, Lib.hid (HPUT.out _ HX.out _ hT.out), Lib.hid (hB.out.setCell (p := ⟨R0, k, none⟩) hR0 _), by simp [HZ.out]⟩
          case measure => simp [intOf]
      have hqlt : q < s.length := by omega
      have hqe : ((q : Int) == s.length) = false := by rw [beq_eq_false_iff_ne]; omega
      have hqi1 : (q : Int) < s.length := by omega
      have hq1b : (q : Int) + 1 < (s.length : Int) + 1 := by omega
      have hm1 := HMO.out (q + 1) (by omega) (by omega)
      have ht1 := hT.out.row (a := q + 1) (by omega) (by omega)
      obtain ⟨⟨A, hA, eA⟩, _⟩ := hT.out.spot (a := q + 1) (b := k) (by omega) (by omega) hkm
      have hA0 := eT_bd (s := s) (r := r) (s.length - (q + 1)) (q + 1) k rfl (by omega)
      have EA := Lib.hid (eA (by omega))
      rw [← EA.out] at hA0
      obtain ⟨hA1, hA2⟩ : 0 ≤ A ∧ A ≤ 2000 := by omega
      obtain ⟨R1, eR1⟩ : ∃ R, rc (q + 1) = R := ⟨_, rfl⟩
      have ER1 := Lib.hid eR1
      rw [ER0.out, eR1] at hm1
      rw [eR1] at ht1 hA
      have n1 : ¬ R1 = R0 := by omega
      have n1' : ¬ R0 = R1 := by omega
      have hixs := fun W => sidx_run s q hqlt (q : Int) rfl W
      obtain ⟨a0, ea0⟩ : ∃ a, s.getD q 0 = a := ⟨_, rfl⟩
      rw [ea0] at hixs
      have EA0 := Lib.hid ea0
      have HWK := Lib.hid (IntWalk.i64_in ((k : Int) + 1) (by omega))
      have HWQ := Lib.hid (IntWalk.i64_in ((q : Int) + 1) (by omega))
      have HWK2 := Lib.hid (IntWalk.i64_in ((k : Int) + 2) (by omega))
      have HET := Lib.hid (eT_at (s := s) (r := r) hqlt k)
      clear eR1 ea0 eA hA0 hm1
      by_cases hkA : k = r.length
      · have d1 : decide (k < r.length) = false := decide_eq_false (by omega)
        have d2n : decide (k + 1 < r.length) = false := decide_eq_false (by omega)
        have d2 : decide ((k : Int) + 1 < r.length) = false := decide_eq_false (by omega)
        have HX : Hid (1 + A = eT s r q k) := Lib.hid (by (rw [HET.out]; unfold eB3; rw [if_neg (fun h => by omega)]; unfold eB2; rw [if_neg (fun h => by omega)]; unfold eB1; rw [if_neg (fun h => by omega)]; unfold eB0; rw [← EA.out]) <;> omega)
        clear hkA
        as_aux_lemma =>
          go_wp2_with fail
          have hwo0 := HWK.out
          have hwo1 := HWQ.out
          go_quiet (fail)
          clear hwo0 hwo1
          go_wp2_with fail
          have hwo0 := HWK.out
          have hwo1 := HWQ.out
          go_quiet (fail)
          clear hwo0 hwo1
          go_wp2_with fail
          have hwo0 := HWK.out
          have hwo1 := HWQ.out
          go_quiet (fail)
          clear hwo0 hwo1
          go_wp2_with fail
          go_roundw
          case rel => exact ⟨k, (k : Int) - 1, rfl, rfl, by omega, Lib.hid ((HPUT.out _ (by have := HX.out; omega) _ (HKEEP.out _ _ hT.out)).drewN _), Lib.hid (below_drewN ((hB.out.setCell (p := ⟨R0, k, none⟩) hR0 _).setCell (p := ⟨R0, k, none⟩) hR0 _) _), by simp [HZ.out]⟩
          case measure => simp [intOf]
      have hkl : k < r.length := by omega
      have hkli : (k : Int) < r.length := by omega
      have d1 : decide (k < r.length) = true := decide_eq_true hkl
      have hk1b : (k : Int) + 1 < (r.length : Int) + 1 := by omega
      obtain ⟨⟨Bx, hBx, eBx⟩, _⟩ := hT.out.spot (a := q + 1) (b := k + 1) (by omega) (by omega) (by omega)
      have hBx0 := eT_bd (s := s) (r := r) (s.length - (q + 1)) (q + 1) (k + 1) rfl (by omega)
      have EBx := Lib.hid (eBx (by omega))
      rw [← EBx.out] at hBx0
      obtain ⟨hBx1, hBx2⟩ : 0 ≤ Bx ∧ Bx ≤ 2000 := by omega
      rw [ER1.out] at hBx
      have hixr := fun W => sidx_run r k hkl (k : Int) rfl W
      obtain ⟨b0, eb0⟩ : ∃ b, r.getD k 0 = b := ⟨_, rfl⟩
      rw [eb0] at hixr
      have EB0 := Lib.hid eb0
      clear eb0 eBx hBx0
      by_cases hkB : k + 1 = r.length
      · have d2 : decide ((k : Int) + 1 < r.length) = false := decide_eq_false (by omega)
        have d2n : decide (k + 1 < r.length) = false := decide_eq_false (by omega)
        by_cases he1 : a0 = b0
        · have g1 : ((a0.toNat : Int) == b0.toNat) = true := by rw [he1]; simp
          have HX : Hid (min (1 + A) (Bx) = eT s r q k) := Lib.hid (by (rw [HET.out]; unfold eB3; rw [if_neg (fun h => by omega)]; unfold eB2; rw [if_neg (fun h => by omega)]; unfold eB1; rw [if_pos ⟨hkl, by rw [EA0.out, EB0.out]; exact he1⟩]; unfold eB0; rw [← EA.out, ← EBx.out]) <;> omega)
          clear he1 hkA hkB
          as_aux_lemma =>
            go_wp2_with fail
            have hwo0 := HWK.out
            have hwo1 := HWQ.out
            go_quiet (fail)
            clear hwo0 hwo1
            go_wp2_with fail
            have hwo0 := HWK.out
            have hwo1 := HWQ.out
            go_quiet (fail)
            clear hwo0 hwo1
            go_wp2_with fail
            have hwo0 := HWK.out
            have hwo1 := HWQ.out
            go_quiet (fail)
            clear hwo0 hwo1
            go_wp2_with fail
            go_roundw
            case rel => exact ⟨k, (k : Int) - 1, rfl, rfl, by omega, Lib.hid ((HPUT.out _ (by have := HX.out; omega) _ (HKEEP.out _ _ hT.out)).drewN _), Lib.hid (below_drewN ((hB.out.setCell (p := ⟨R0, k, none⟩) hR0 _).setCell (p := ⟨R0, k, none⟩) hR0 _) _), by simp [HZ.out]⟩
            case measure => simp [intOf]
        · have g1 : ((a0.toNat : Int) == b0.toNat) = false := by rw [beq_eq_false_iff_ne]; intro h; exact he1 (UInt8.toNat_inj.1 (by omega))
          have HX : Hid (1 + A = eT s r q k) := Lib.hid (by (rw [HET.out]; unfold eB3; rw [if_neg (fun h => by omega)]; unfold eB2; rw [if_neg (fun h => by omega)]; unfold eB1; rw [if_neg (fun h => he1 (by rw [EA0.out, EB0.out] at h; exact h.2))]; unfold eB0; rw [← EA.out]) <;> omega)
          clear he1 hkA hkB
          as_aux_lemma =>
            go_wp2_with fail
            have hwo0 := HWK.out
            have hwo1 := HWQ.out
            go_quiet (fail)
            clear hwo0 hwo1
            go_wp2_with fail
            have hwo0 := HWK.out
            have hwo1 := HWQ.out
            go_quiet (fail)
            clear hwo0 hwo1
            go_wp2_with fail
            have hwo0 := HWK.out
            have hwo1 := HWQ.out
            go_quiet (fail)
            clear hwo0 hwo1
            go_wp2_with fail
            go_roundw
            case rel => exact ⟨k, (k : Int) - 1, rfl, rfl, by omega, Lib.hid ((HPUT.out _ (by have := HX.out; omega) _ (HKEEP.out _ _ hT.out)).drewN _), Lib.hid (below_drewN ((hB.out.setCell (p := ⟨R0, k, none⟩) hR0 _).setCell (p := ⟨R0, k, none⟩) hR0 _) _), by simp [HZ.out]⟩
            case measure => simp [intOf]
      have hkl2 : k + 1 < r.length := by omega
      have hkli2 : (k : Int) + 1 < r.length := by omega
      have d2 : decide ((k : Int) + 1 < r.length) = true := decide_eq_true hkli2
      have d2n : decide (k + 1 < r.length) = true := decide_eq_true hkl2
      have hk2b : (k : Int) + 2 < (r.length : Int) + 1 := by omega
      obtain ⟨⟨Cx, hCx, eCx⟩, _⟩ := hT.out.spot (a := q + 1) (b := k + 2) (by omega) (by omega) (by omega)
      have hCx0 := eT_bd (s := s) (r := r) (s.length - (q + 1)) (q + 1) (k + 2) rfl (by omega)
      have ECx := Lib.hid (eCx (by omega))
      rw [← ECx.out] at hCx0
      obtain ⟨hCx1, hCx2⟩ : 0 ≤ Cx ∧ Cx ≤ 2000 := by omega
      rw [ER1.out] at hCx
      have hixr1 := fun W => sidx_run r (k + 1) hkl2 ((k : Int) + 1) (by omega) W
      obtain ⟨b1, eb1⟩ : ∃ b, r.getD (k + 1) 0 = b := ⟨_, rfl⟩
      rw [eb1] at hixr1
      have EB1 := Lib.hid eb1
      clear eb1 eCx hCx0
      by_cases hi2 : q + 1 = s.length
      · have d3 : decide ((q : Int) + 1 < s.length) = false := decide_eq_false (by omega)
        have d3n : decide (q + 1 < s.length) = false := decide_eq_false (by omega)
        by_cases he1 : a0 = b0
        · have g1 : ((a0.toNat : Int) == b0.toNat) = true := by rw [he1]; simp
          by_cases he2 : a0 = b1
          · have g2 : ((a0.toNat : Int) == b1.toNat) = true := by rw [he2]; simp
            have HX : Hid (min (1 + A) (min (Bx) (1 + Cx)) = eT s r q k) := Lib.hid (by (rw [HET.out]; unfold eB3; rw [if_neg (fun h => by omega)]; unfold eB2; rw [if_pos ⟨hkl2, by rw [EA0.out, EB0.out]; exact he1, by rw [EA0.out, EB1.out]; exact he2⟩]; unfold eB1; rw [if_pos ⟨hkl, by rw [EA0.out, EB0.out]; exact he1⟩]; unfold eB0; rw [← EA.out, ← EBx.out, ← ECx.out]) <;> omega)
            clear he1 he2 hkA hkB hi2
            as_aux_lemma =>
              go_wp2_with fail
              have hwo0 := HWK.out
              have hwo1 := HWQ.out
              go_quiet (fail)
              clear hwo0 hwo1
              go_wp2_with fail
              have hwo0 := HWK.out
              have hwo1 := HWQ.out
              go_quiet (fail)
              clear hwo0 hwo1
              go_wp2_with fail
              have hwo0 := HWK.out
              have hwo1 := HWQ.out
              go_quiet (fail)
              clear hwo0 hwo1
              go_wp2_with fail
              go_roundw
              case rel => exact ⟨k, (k : Int) - 1, rfl, rfl, by omega, Lib.hid ((HPUT.out _ (by have := HX.out; omega) _ (HKEEP.out _ _ hT.out)).drewN _), Lib.hid (below_drewN ((hB.out.setCell (p := ⟨R0, k, none⟩) hR0 _).setCell (p := ⟨R0, k, none⟩) hR0 _) _), by simp [HZ.out]⟩
              case measure => simp [intOf]
          · have g2 : ((a0.toNat : Int) == b1.toNat) = false := by rw [beq_eq_false_iff_ne]; intro h; exact he2 (UInt8.toNat_inj.1 (by omega))
            have HX : Hid (min (1 + A) (Bx) = eT s r q k) := Lib.hid (by (rw [HET.out]; unfold eB3; rw [if_neg (fun h => by omega)]; unfold eB2; rw [if_neg (fun h => he2 (by have := h.2.2; rw [EA0.out, EB1.out] at this; exact this))]; unfold eB1; rw [if_pos ⟨hkl, by rw [EA0.out, EB0.out]; exact he1⟩]; unfold eB0; rw [← EA.out, ← EBx.out]) <;> omega)
            clear he1 he2 hkA hkB hi2
            as_aux_lemma =>
              go_wp2_with fail
              have hwo0 := HWK.out
              have hwo1 := HWQ.out
              go_quiet (fail)
              clear hwo0 hwo1
              go_wp2_with fail
              have hwo0 := HWK.out
              have hwo1 := HWQ.out
              go_quiet (fail)
              clear hwo0 hwo1
              go_wp2_with fail
              have hwo0 := HWK.out
              have hwo1 := HWQ.out
              go_quiet (fail)
              clear hwo0 hwo1
              go_wp2_with fail
              go_roundw
              case rel => exact ⟨k, (k : Int) - 1, rfl, rfl, by omega, Lib.hid ((HPUT.out _ (by have := HX.out; omega) _ (HKEEP.out _ _ hT.out)).drewN _), Lib.hid (below_drewN ((hB.out.setCell (p := ⟨R0, k, none⟩) hR0 _).setCell (p := ⟨R0, k, none⟩) hR0 _) _), by simp [HZ.out]⟩
              case measure => simp [intOf]
        · have g1 : ((a0.toNat : Int) == b0.toNat) = false := by rw [beq_eq_false_iff_ne]; intro h; exact he1 (UInt8.toNat_inj.1 (by omega))
          by_cases he2 : a0 = b1
          · have g2 : ((a0.toNat : Int) == b1.toNat) = true := by rw [he2]; simp
            have HX : Hid (1 + A = eT s r q k) := Lib.hid (by (rw [HET.out]; unfold eB3; rw [if_neg (fun h => by omega)]; unfold eB2; rw [if_neg (fun h => he1 (by have := h.2.1; rw [EA0.out, EB0.out] at this; exact this))]; unfold eB1; rw [if_neg (fun h => he1 (by rw [EA0.out, EB0.out] at h; exact h.2))]; unfold eB0; rw [← EA.out]) <;> omega)
            clear he1 he2 hkA hkB hi2
            as_aux_lemma =>
              go_wp2_with fail
              have hwo0 := HWK.out
              have hwo1 := HWQ.out
              go_quiet (fail)
              clear hwo0 hwo1
              go_wp2_with fail
              have hwo0 := HWK.out
              have hwo1 := HWQ.out
              go_quiet (fail)
              clear hwo0 hwo1
              go_wp2_with fail
              have hwo0 := HWK.out
              have hwo1 := HWQ.out
              go_quiet (fail)
              clear hwo0 hwo1
              go_wp2_with fail
              go_roundw
              case rel => exact ⟨k, (k : Int) - 1, rfl, rfl, by omega, Lib.hid ((HPUT.out _ (by have := HX.out; omega) _ (HKEEP.out _ _ hT.out)).drewN _), Lib.hid (below_drewN ((hB.out.setCell (p := ⟨R0, k, none⟩) hR0 _).setCell (p := ⟨R0, k, none⟩) hR0 _) _), by simp [HZ.out]⟩
              case measure => simp [intOf]
          · have g2 : ((a0.toNat : Int) == b1.toNat) = false := by rw [beq_eq_false_iff_ne]; intro h; exact he2 (UInt8.toNat_inj.1 (by omega))
            have HX : Hid (1 + A = eT s r q k) := Lib.hid (by (rw [HET.out]; unfold eB3; rw [if_neg (fun h => by omega)]; unfold eB2; rw [if_neg (fun h => he1 (by have := h.2.1; rw [EA0.out, EB0.out] at this; exact this))]; unfold eB1; rw [if_neg (fun h => he1 (by rw [EA0.out, EB0.out] at h; exact h.2))]; unfold eB0; rw [← EA.out]) <;> omega)
            clear he1 he2 hkA hkB hi2
            as_aux_lemma =>
              go_wp2_with fail
              have hwo0 := HWK.out
              have hwo1 := HWQ.out
              go_quiet (fail)
              clear hwo0 hwo1
              go_wp2_with fail
              have hwo0 := HWK.out
              have hwo1 := HWQ.out
              go_quiet (fail)
              clear hwo0 hwo1
              go_wp2_with fail
              have hwo0 := HWK.out
              have hwo1 := HWQ.out
              go_quiet (fail)
              clear hwo0 hwo1
              go_wp2_with fail
              go_roundw
              case rel => exact ⟨k, (k : Int) - 1, rfl, rfl, by omega, Lib.hid ((HPUT.out _ (by have := HX.out; omega) _ (HKEEP.out _ _ hT.out)).drewN _), Lib.hid (below_drewN ((hB.out.setCell (p := ⟨R0, k, none⟩) hR0 _).setCell (p := ⟨R0, k, none⟩) hR0 _) _), by simp [HZ.out]⟩
              case measure => simp [intOf]
      have hql2 : q + 1 < s.length := by omega
      have hqli2 : (q : Int) + 1 < s.length := by omega
      have d3 : decide ((q : Int) + 1 < s.length) = true := decide_eq_true hqli2
      have d3n : decide (q + 1 < s.length) = true := decide_eq_true hql2
      have hq2b : (q : Int) + 2 < (s.length : Int) + 1 := by omega
      have hm2 := HMO.out (q + 2) (by omega) (by omega)
      have ht2 := hT.out.row (a := q + 2) (by omega) (by omega)
      obtain ⟨⟨Dx, hDx, eDx⟩, _⟩ := hT.out.spot (a := q + 2) (b := k + 2) (by omega) (by omega) (by omega)
      have hDx0 := eT_bd (s := s) (r := r) (s.length - (q + 2)) (q + 2) (k + 2) rfl (by omega)
      have EDx := Lib.hid (eDx (by omega))
      rw [← EDx.out] at hDx0
      obtain ⟨hDx1, hDx2⟩ : 0 ≤ Dx ∧ Dx ≤ 2000 := by omega
      obtain ⟨R2, eR2⟩ : ∃ R, rc (q + 2) = R := ⟨_, rfl⟩
      rw [ER0.out, eR2] at hm2
      rw [eR2] at ht2 hDx
      have n2 : ¬ R2 = R0 := by omega
      have n2' : ¬ R0 = R2 := by omega
      have hixs1 := fun W => sidx_run s (q + 1) hql2 ((q : Int) + 1) (by omega) W
      obtain ⟨a1, ea1⟩ : ∃ a, s.getD (q + 1) 0 = a := ⟨_, rfl⟩
      rw [ea1] at hixs1
      have EA1 := Lib.hid ea1
      clear ea1 eDx hDx0 hm2 eR2
      by_cases he1 : a0 = b0
      · have g1 : ((a0.toNat : Int) == b0.toNat) = true := by rw [he1]; simp
        by_cases he2 : a0 = b1
        · have g2 : ((a0.toNat : Int) == b1.toNat) = true := by rw [he2]; simp
          by_cases he3 : a1 = b0
          · have g3 : ((a1.toNat : Int) == b0.toNat) = true := by rw [he3]; simp
            have HX : Hid (min (1 + A) (min (Bx) (min (1 + Cx) (1 + Dx))) = eT s r q k) := Lib.hid (by (rw [HET.out]; unfold eB3; rw [if_pos ⟨hkl2, hql2, by rw [EA0.out, EB1.out]; exact he2, by rw [EA1.out, EB0.out]; exact he3⟩]; unfold eB2; rw [if_pos ⟨hkl2, by rw [EA0.out, EB0.out]; exact he1, by rw [EA0.out, EB1.out]; exact he2⟩]; unfold eB1; rw [if_pos ⟨hkl, by rw [EA0.out, EB0.out]; exact he1⟩]; unfold eB0; rw [← EA.out, ← EBx.out, ← ECx.out, ← EDx.out]) <;> omega)
            clear he1 he2 he3 hkA hkB hi2
            as_aux_lemma =>
              go_wp2_with fail
              have hwo0 := HWK.out
              have hwo1 := HWQ.out
              go_quiet (fail)
              clear hwo0 hwo1
              go_wp2_with fail
              have hwo0 := HWK.out
              have hwo1 := HWQ.out
              go_quiet (fail)
              clear hwo0 hwo1
              go_wp2_with fail
              have hwo0 := HWK.out
              have hwo1 := HWQ.out
              go_quiet (fail)
              clear hwo0 hwo1
              go_wp2_with fail
              go_roundw
              case rel => exact ⟨k, (k : Int) - 1, rfl, rfl, by omega, Lib.hid ((HPUT.out _ (by have := HX.out; omega) _ (HKEEP.out _ _ hT.out)).drewN _), Lib.hid (below_drewN ((hB.out.setCell (p := ⟨R0, k, none⟩) hR0 _).setCell (p := ⟨R0, k, none⟩) hR0 _) _), by simp [HZ.out]⟩
              case measure => simp [intOf]
          · have g3 : ((a1.toNat : Int) == b0.toNat) = false := by rw [beq_eq_false_iff_ne]; intro h; exact he3 (UInt8.toNat_inj.1 (by omega))
            have HX : Hid (min (1 + A) (min (Bx) (1 + Cx)) = eT s r q k) := Lib.hid (by (rw [HET.out]; unfold eB3; rw [if_neg (fun h => he3 (by have := h.2.2.2; rw [EA1.out, EB0.out] at this; exact this))]; unfold eB2; rw [if_pos ⟨hkl2, by rw [EA0.out, EB0.out]; exact he1, by rw [EA0.out, EB1.out]; exact he2⟩]; unfold eB1; rw [if_pos ⟨hkl, by rw [EA0.out, EB0.out]; exact he1⟩]; unfold eB0; rw [← EA.out, ← EBx.out, ← ECx.out]) <;> omega)
            clear he1 he2 he3 hkA hkB hi2
            as_aux_lemma =>
              go_wp2_with fail
              have hwo0 := HWK.out
              have hwo1 := HWQ.out
              go_quiet (fail)
              clear hwo0 hwo1
              go_wp2_with fail
              have hwo0 := HWK.out
              have hwo1 := HWQ.out
              go_quiet (fail)
              clear hwo0 hwo1
              go_wp2_with fail
              have hwo0 := HWK.out
              have hwo1 := HWQ.out
              go_quiet (fail)
              clear hwo0 hwo1
              go_wp2_with fail
              go_roundw
              case rel => exact ⟨k, (k : Int) - 1, rfl, rfl, by omega, Lib.hid ((HPUT.out _ (by have := HX.out; omega) _ (HKEEP.out _ _ hT.out)).drewN _), Lib.hid (below_drewN ((hB.out.setCell (p := ⟨R0, k, none⟩) hR0 _).setCell (p := ⟨R0, k, none⟩) hR0 _) _), by simp [HZ.out]⟩
              case measure => simp [intOf]
        · have g2 : ((a0.toNat : Int) == b1.toNat) = false := by rw [beq_eq_false_iff_ne]; intro h; exact he2 (UInt8.toNat_inj.1 (by omega))
          have HX : Hid (min (1 + A) (Bx) = eT s r q k) := Lib.hid (by (rw [HET.out]; unfold eB3; rw [if_neg (fun h => he2 (by have := h.2.2.1; rw [EA0.out, EB1.out] at this; exact this))]; unfold eB2; rw [if_neg (fun h => he2 (by have := h.2.2; rw [EA0.out, EB1.out] at this; exact this))]; unfold eB1; rw [if_pos ⟨hkl, by rw [EA0.out, EB0.out]; exact he1⟩]; unfold eB0; rw [← EA.out, ← EBx.out]) <;> omega)
          clear he1 he2 hkA hkB hi2
          as_aux_lemma =>
            go_wp2_with fail
            have hwo0 := HWK.out
            have hwo1 := HWQ.out
            go_quiet (fail)
            clear hwo0 hwo1
            go_wp2_with fail
            have hwo0 := HWK.out
            have hwo1 := HWQ.out
            go_quiet (fail)
            clear hwo0 hwo1
            go_wp2_with fail
            have hwo0 := HWK.out
            have hwo1 := HWQ.out
            go_quiet (fail)
            clear hwo0 hwo1
            go_wp2_with fail
            go_roundw
            case rel => exact ⟨k, (k : Int) - 1, rfl, rfl, by omega, Lib.hid ((HPUT.out _ (by have := HX.out; omega) _ (HKEEP.out _ _ hT.out)).drewN _), Lib.hid (below_drewN ((hB.out.setCell (p := ⟨R0, k, none⟩) hR0 _).setCell (p := ⟨R0, k, none⟩) hR0 _) _), by simp [HZ.out]⟩
            case measure => simp [intOf]
      · have g1 : ((a0.toNat : Int) == b0.toNat) = false := by rw [beq_eq_false_iff_ne]; intro h; exact he1 (UInt8.toNat_inj.1 (by omega))
        by_cases he2 : a0 = b1
        · have g2 : ((a0.toNat : Int) == b1.toNat) = true := by rw [he2]; simp
          by_cases he3 : a1 = b0
          · have g3 : ((a1.toNat : Int) == b0.toNat) = true := by rw [he3]; simp
            have HX : Hid (min (1 + A) (1 + Dx) = eT s r q k) := Lib.hid (by (rw [HET.out]; unfold eB3; rw [if_pos ⟨hkl2, hql2, by rw [EA0.out, EB1.out]; exact he2, by rw [EA1.out, EB0.out]; exact he3⟩]; unfold eB2; rw [if_neg (fun h => he1 (by have := h.2.1; rw [EA0.out, EB0.out] at this; exact this))]; unfold eB1; rw [if_neg (fun h => he1 (by rw [EA0.out, EB0.out] at h; exact h.2))]; unfold eB0; rw [← EA.out, ← EDx.out]) <;> omega)
            clear he1 he2 he3 hkA hkB hi2
            as_aux_lemma =>
              go_wp2_with fail
              have hwo0 := HWK.out
              have hwo1 := HWQ.out
              go_quiet (fail)
              clear hwo0 hwo1
              go_wp2_with fail
              have hwo0 := HWK.out
              have hwo1 := HWQ.out
              go_quiet (fail)
              clear hwo0 hwo1
              go_wp2_with fail
              have hwo0 := HWK.out
              have hwo1 := HWQ.out
              go_quiet (fail)
              clear hwo0 hwo1
              go_wp2_with fail
              go_roundw
              case rel => exact ⟨k, (k : Int) - 1, rfl, rfl, by omega, Lib.hid ((HPUT.out _ (by have := HX.out; omega) _ (HKEEP.out _ _ hT.out)).drewN _), Lib.hid (below_drewN ((hB.out.setCell (p := ⟨R0, k, none⟩) hR0 _).setCell (p := ⟨R0, k, none⟩) hR0 _) _), by simp [HZ.out]⟩
              case measure => simp [intOf]
          · have g3 : ((a1.toNat : Int) == b0.toNat) = false := by rw [beq_eq_false_iff_ne]; intro h; exact he3 (UInt8.toNat_inj.1 (by omega))
            have HX : Hid (1 + A = eT s r q k) := Lib.hid (by (rw [HET.out]; unfold eB3; rw [if_neg (fun h => he3 (by have := h.2.2.2; rw [EA1.out, EB0.out] at this; exact this))]; unfold eB2; rw [if_neg (fun h => he1 (by have := h.2.1; rw [EA0.out, EB0.out] at this; exact this))]; unfold eB1; rw [if_neg (fun h => he1 (by rw [EA0.out, EB0.out] at h; exact h.2))]; unfold eB0; rw [← EA.out]) <;> omega)
            clear he1 he2 he3 hkA hkB hi2
            as_aux_lemma =>
              go_wp2_with fail
              have hwo0 := HWK.out
              have hwo1 := HWQ.out
              go_quiet (fail)
              clear hwo0 hwo1
              go_wp2_with fail
              have hwo0 := HWK.out
              have hwo1 := HWQ.out
              go_quiet (fail)
              clear hwo0 hwo1
              go_wp2_with fail
              have hwo0 := HWK.out
              have hwo1 := HWQ.out
              go_quiet (fail)
              clear hwo0 hwo1
              go_wp2_with fail
              go_roundw
              case rel => exact ⟨k, (k : Int) - 1, rfl, rfl, by omega, Lib.hid ((HPUT.out _ (by have := HX.out; omega) _ (HKEEP.out _ _ hT.out)).drewN _), Lib.hid (below_drewN ((hB.out.setCell (p := ⟨R0, k, none⟩) hR0 _).setCell (p := ⟨R0, k, none⟩) hR0 _) _), by simp [HZ.out]⟩
              case measure => simp [intOf]
        · have g2 : ((a0.toNat : Int) == b1.toNat) = false := by rw [beq_eq_false_iff_ne]; intro h; exact he2 (UInt8.toNat_inj.1 (by omega))
          have HX : Hid (1 + A = eT s r q k) := Lib.hid (by (rw [HET.out]; unfold eB3; rw [if_neg (fun h => he2 (by have := h.2.2.1; rw [EA0.out, EB1.out] at this; exact this))]; unfold eB2; rw [if_neg (fun h => he1 (by have := h.2.1; rw [EA0.out, EB0.out] at this; exact this))]; unfold eB1; rw [if_neg (fun h => he1 (by rw [EA0.out, EB0.out] at h; exact h.2))]; unfold eB0; rw [← EA.out]) <;> omega)
          clear he1 he2 hkA hkB hi2
          as_aux_lemma =>
            go_wp2_with fail
            have hwo0 := HWK.out
            have hwo1 := HWQ.out
            go_quiet (fail)
            clear hwo0 hwo1
            go_wp2_with fail
            have hwo0 := HWK.out
            have hwo1 := HWQ.out
            go_quiet (fail)
            clear hwo0 hwo1
            go_wp2_with fail
            have hwo0 := HWK.out
            have hwo1 := HWQ.out
            go_quiet (fail)
            clear hwo0 hwo1
            go_wp2_with fail
            go_roundw
            case rel => exact ⟨k, (k : Int) - 1, rfl, rfl, by omega, Lib.hid ((HPUT.out _ (by have := HX.out; omega) _ (HKEEP.out _ _ hT.out)).drewN _), Lib.hid (below_drewN ((hB.out.setCell (p := ⟨R0, k, none⟩) hR0 _).setCell (p := ⟨R0, k, none⟩) hR0 _) _), by simp [HZ.out]⟩
            case measure => simp [intOf]
end Go.Proofs.YtjbdmlpadoiicaaGreatDoor
