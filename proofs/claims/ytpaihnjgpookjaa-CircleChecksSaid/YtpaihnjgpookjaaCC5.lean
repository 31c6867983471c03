/- Package circle: on which thing a bound rests. -/
import Derived.Test.YtpaihnjgpookjaaCC4
set_option linter.unusedVariables false
set_option linter.unusedSimpArgs false
namespace Go.Proofs.Ytpaihnjgpookjaa
open Go Go.RowKit

/-- The number of the first thing that alone bounds the zero so. -/
def rsI (A : Th → Int) (bound last : Int) : List Th → Int
  | [] => 0
  | h :: l => if (bound != last && A h == bound) = true then h.id else rsI A bound last l
theorem rsI_drop {A : Th → Int} {bound last : Int} {l : List Th} {k : Nat} (hk : k < l.length) : rsI A bound last (l.drop k) = if (bound != last && A (l.getD k .nil) == bound) = true then (l.getD k .nil).id else rsI A bound last (l.drop (k + 1)) := by
  rw [List.drop_eq_getElem_cons hk, List.getD_eq_getElem?_getD, List.getElem?_eq_getElem hk]
  rfl
set_option maxRecDepth 100000 in
set_option maxHeartbeats 8000000 in
theorem rest_any (z : Ci) (v : Value) (l : List Th) (bound last : Int) (f : Nat) (p q : Value) (A : Th → Int) (w : World) (hv : ThRow w v l) (hl : l.length ≤ 100) (hf : ∀ args w', (callFunc f args).run Try.prog w' = .ok (.enter f args) w')
    (hcall : ∀ w' h, Below w.heap.size w w' → h ∈ l → Calls Try.prog f #[h.val, p, q] w' fun e w'' => e = .returned (.int .i64 (A h)) ∧ Below w'.heap.size w' w'') :
    Calls Try.prog 64 #[dlV z v, .int .i64 bound, .int .i64 last, .func (.func f) #[] #[p, q]] w fun e w' => e = .returned (.int .i64 (rsI A bound last l)) ∧ Below w.heap.size w w' := by
  have HV := Lib.hid hv
  obtain ⟨va, vc, rfl, hc⟩ := hv.form
  have HC := Lib.hid hc
  have HLEN := Lib.hid hl
  have HCALL := Lib.hid hcall
  have HF := Lib.hid hf
  obtain ⟨R, hR⟩ : ∃ R, rsI A bound last l = R := ⟨_, rfl⟩
  rw [hR]
  have HR := Lib.hid hR
  clear hc hv hl hcall hR hf
  obtain ⟨zi, zx, zy, zf, zt, zl, zh, dr⟩ := z
  unfold dlV
  simp only
  have HA := Lib.hid (fun W' => cells1 w #[.int .i64 zi, .int .i64 zx, .int .i64 zy, .int .i64 zf, .int .i64 zt, .int .i64 zl, .int .i64 zh, .int .i64 dr, .slice va l.length vc] 112 (W := W'))
  have HB0 := Lib.hid (Below.refl (w.alloc (.cells #[.int .i64 zi, .int .i64 zx, .int .i64 zy, .int .i64 zf, .int .i64 zt, .int .i64 zl, .int .i64 zh, .int .i64 dr, .slice va l.length vc] 112)).heap.size (w.alloc (.cells #[.int .i64 zi, .int .i64 zx, .int .i64 zy, .int .i64 zf, .int .i64 zt, .int .i64 zl, .int .i64 zh, .int .i64 dr, .slice va l.length vc] 112)))
  obtain ⟨Z, hZ⟩ : ∃ Z, w.alloc (.cells #[.int .i64 zi, .int .i64 zx, .int .i64 zy, .int .i64 zf, .int .i64 zt, .int .i64 zl, .int .i64 zh, .int .i64 dr, .slice va l.length vc] 112) = Z := ⟨_, rfl⟩
  rw [hZ] at HA HB0
  have HZ := Lib.hid hZ
  have d8 := cellH (HA.out Z HB0.out).1 8
  simp only [List.getElem?_toArray, List.getElem?_cons_zero, List.getElem?_cons_succ] at d8
  rw [← hZ] at d8
  clear hZ
  go_enter Try.func64, Try.ntmps64
  go_wp2_with fail
  rw [HZ.out]
  clear d8
  go_loopw [14] (fun i wr => ∃ (k : Nat), k ≤ l.length ∧ i = .int .i64 k ∧ Hid (Below Z.heap.size Z wr) ∧ Hid (rsI A bound last (l.drop k) = R)) (fun i _ => l.length - (intOf i).toNat)
  case atStart => exact ⟨0, Nat.zero_le _, rfl, HB0, HR⟩
  case round =>
    obtain ⟨k, hk, rfl, hB, hN⟩ := hrel
    have HZB : Hid (Below w.heap.size w wr) := Lib.hid (HA.out wr hB.out).2.2
    by_cases hkl : k < l.length
    · obtain ⟨b, off, rfl, hb, hat⟩ := HC.out k hkl
      obtain ⟨e0, e1, e2, e3, e4, e5, e6, e7, e8, e9⟩ := hat.keep HZB.out hb
      have hki : (k : Int) < l.length := by omega
      have hk0 : (0 : Int) ≤ k := by omega
      have ek : IntKind.i64.wrap ((k : Int) + 1) = (k : Int) + 1 := IntWalk.i64_in _ (by have := HLEN.out; omega)
      have HD := Lib.hid (rsI_drop (A := A) (bound := bound) (last := last) hkl)
      have HCL : Hid (∀ w', Below w.heap.size w w' → Calls Try.prog f #[(l.getD k .nil).val, p, q] w' fun e w'' => e = .returned (.int .i64 (A (l.getD k .nil))) ∧ Below w'.heap.size w' w'') := Lib.hid (fun w' h => HCALL.out w' _ h (by rw [List.getD_eq_getElem?_getD, List.getElem?_eq_getElem hkl]; exact List.getElem_mem _))
      have HKL := Lib.hid hkl
      rw [hN.out] at HD
      obtain ⟨X, hX⟩ : ∃ X, l.getD k .nil = X := ⟨_, rfl⟩
      rw [hX] at e0 e1 e2 e3 e4 e5 e6 e7 e8 e9 HD HCL
      obtain ⟨av, hav⟩ : ∃ n, A X = n := ⟨_, rfl⟩
      rw [hav] at HD HCL
      obtain ⟨g0, g1, g2, g3, g4, g5, g6, g7, g8, g9⟩ := X
      simp only at e0 e1 e2 e3 e4 e5 e6 e7 e8 e9 HD
      clear hX hav hat hb hN HCALL
      have hQ : Below wr.heap.size wr (wr.alloc (.cells #[.int .i64 g0, .int .i64 g1, .int .i64 g2, .int .i64 g3, .int .i64 g4, .int .i64 g5, .int .i64 g6, .int .i64 g7, .int .i64 g8, .bool g9] 125)) := (Below.refl _ wr).alloc (Nat.le_refl _) _
      have HBA := Lib.hid (hB.out.alloc hB.out.size (.cells #[.int .i64 g0, .int .i64 g1, .int .i64 g2, .int .i64 g3, .int .i64 g4, .int .i64 g5, .int .i64 g6, .int .i64 g7, .int .i64 g8, .bool g9] 125))
      have HZA : Hid (Below w.heap.size w (wr.alloc (.cells #[.int .i64 g0, .int .i64 g1, .int .i64 g2, .int .i64 g3, .int .i64 g4, .int .i64 g5, .int .i64 g6, .int .i64 g7, .int .i64 g8, .bool g9] 125))) := Lib.hid (HZB.out.trans (hQ.mono HZB.out.size))
      have HBX : Hid ((wr.alloc (.cells #[.int .i64 g0, .int .i64 g1, .int .i64 g2, .int .i64 g3, .int .i64 g4, .int .i64 g5, .int .i64 g6, .int .i64 g7, .int .i64 g8, .bool g9] 125)).heap[wr.heap.size]? = some (.cells #[.int .i64 g0, .int .i64 g1, .int .i64 g2, .int .i64 g3, .int .i64 g4, .int .i64 g5, .int .i64 g6, .int .i64 g7, .int .i64 g8, .bool g9] 125 (0, 0))) := Lib.hid (heap_alloc_new _ _)
      have HSZ : Hid (wr.heap.size < (wr.alloc (.cells #[.int .i64 g0, .int .i64 g1, .int .i64 g2, .int .i64 g3, .int .i64 g4, .int .i64 g5, .int .i64 g6, .int .i64 g7, .int .i64 g8, .bool g9] 125)).heap.size) := Lib.hid (by simp)
      have HCL2 := Lib.hid (HCL.out _ HZA.out)
      unfold Th.val at HCL2
      simp only at HCL2
      have b0 := cellH HBX.out 0
      have b1 := cellH HBX.out 1
      have b2 := cellH HBX.out 2
      have b3 := cellH HBX.out 3
      have b4 := cellH HBX.out 4
      have b5 := cellH HBX.out 5
      have b6 := cellH HBX.out 6
      have b7 := cellH HBX.out 7
      have b8 := cellH HBX.out 8
      have b9 := cellH HBX.out 9
      simp only [List.getElem?_toArray, List.getElem?_cons_zero, List.getElem?_cons_succ] at b0 b1 b2 b3 b4 b5 b6 b7 b8 b9
      obtain ⟨bb, hbb⟩ : ∃ n, wr.heap.size = n := ⟨_, rfl⟩
      rw [hbb] at HBX HSZ b0 b1 b2 b3 b4 b5 b6 b7 b8 b9
      obtain ⟨w2, hw2⟩ : ∃ X, wr.alloc (.cells #[.int .i64 g0, .int .i64 g1, .int .i64 g2, .int .i64 g3, .int .i64 g4, .int .i64 g5, .int .i64 g6, .int .i64 g7, .int .i64 g8, .bool g9] 125) = X := ⟨_, rfl⟩
      rw [hw2] at HBA HZA HBX HSZ HCL2 b0 b1 b2 b3 b4 b5 b6 b7 b8 b9
      clear hQ HCL hB HZB
      cases hbn : (bound != last)
      · have HN2 : Hid (rsI A bound last (l.drop (k + 1)) = R) := Lib.hid (by
          have h := HD.out
          rw [hbn] at h
          rw [h]; rfl)
        go_wp2_with fail
        go_roundw
        case rel => exact ⟨k + 1, HKL.out, by go_num, HBA, HN2⟩
        case measure => have := HKL.out; simp [intOf]; omega
      · have hen := HF.out #[.agg #[.int .i64 g0, .int .i64 g1, .int .i64 g2, .int .i64 g3, .int .i64 g4, .int .i64 g5, .int .i64 g6, .int .i64 g7, .int .i64 g8, .bool g9], p, q] w2
        go_wp2_with fail
        refine HCL2.out.mono ?_
        rintro e w3 ⟨rfl, hb3⟩
        have HB3 := Lib.hid (HBA.out.trans (hb3.mono HBA.out.size))
        have HZ3 := Lib.hid (HZA.out.trans (hb3.mono HZA.out.size))
        have x0 := cellH ((hb3.block _ HSZ.out).trans HBX.out) 0
        simp only [List.getElem?_toArray, List.getElem?_cons_zero, List.getElem?_cons_succ] at x0
        clear hb3 b0 b1 b2 b3 b4 b5 b6 b7 b8 b9 hw2
        cases hE : (av == bound)
        · have HN2 : Hid (rsI A bound last (l.drop (k + 1)) = R) := Lib.hid (by
            have h := HD.out
            rw [hbn, hE] at h
            rw [h]; rfl)
          go_wp2_with fail
          go_roundw
          case rel => exact ⟨k + 1, HKL.out, by go_num, HB3, HN2⟩
          case measure => have := HKL.out; simp [intOf]; omega
        · have HN2 : Hid (R = g0) := Lib.hid (by
            have h := HD.out
            rw [hbn, hE] at h
            rw [h]; rfl)
          go_wp2_with fail
          go_ret
          exact ⟨by rw [HN2.out]; rfl, HZ3.out⟩
    · obtain rfl : k = l.length := by omega
      have HN2 : Hid (R = 0) := Lib.hid (by
        have h := hN.out
        rw [List.drop_length] at h
        rw [← h]; rfl)
      go_wp2_with fail
      go_ret
      exact ⟨by rw [HN2.out]; rfl, HZB.out⟩
end Go.Proofs.Ytpaihnjgpookjaa
