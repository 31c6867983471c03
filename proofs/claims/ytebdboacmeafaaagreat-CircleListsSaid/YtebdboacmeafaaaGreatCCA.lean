/- Merged: CC0, CC1, CC2, CC3. -/
import Derived.Test.YtebdboacmeafaaaGreatCBA
import Derived.Test.YtebdboacmeafaaaGreatHIA
/- Package circle: the iterator of the pairs that contradict each other. -/
set_option linter.unusedVariables false
set_option linter.unusedSimpArgs false
namespace Go.Proofs.YtebdboacmeafaaaGreat
open Go Go.RowKit

abbrev Pi2 := Int × Int
def p2V (p : Pi2) : Value := .agg #[.int .i64 p.1, .int .i64 p.2]
/-- The pairs that contradict each other, in order. -/
def clL (dr : Int) : List Th → List Pi2
  | [] => []
  | a :: l => (if a.no = true then [(a.id, a.id)] else []) ++ ((l.filter fun b => clB dr a b).map fun b => (a.id, b.id)) ++ clL dr l
def clT (dr : Int) (a : Th) (l : List Th) : List Pi2 := (l.filter fun b => clB dr a b).map fun b => (a.id, b.id)
theorem clL_drop {dr : Int} {l : List Th} {k : Nat} (hk : k < l.length) : clL dr (l.drop k) = (if (l.getD k .nil).no = true then [((l.getD k .nil).id, (l.getD k .nil).id)] else []) ++ (clT dr (l.getD k .nil) (l.drop (k + 1)) ++ clL dr (l.drop (k + 1))) := by
  rw [List.drop_eq_getElem_cons hk, List.getD_eq_getElem?_getD, List.getElem?_eq_getElem hk]
  show (_ ++ _) ++ _ = _
  rw [List.append_assoc]; rfl
theorem clT_drop {dr : Int} {a : Th} {l : List Th} {k : Nat} (hk : k < l.length) : clT dr a (l.drop k) = (if clB dr a (l.getD k .nil) = true then [(a.id, (l.getD k .nil).id)] else []) ++ clT dr a (l.drop (k + 1)) := by
  unfold clT
  rw [List.drop_eq_getElem_cons hk, List.getD_eq_getElem?_getD, List.getElem?_eq_getElem hk, List.filter_cons]
  simp only [Option.getD_some]
  split <;> simp
/-- The cells of things. -/
def ThC (C : Array Value) (off : Nat) (l : List Th) : Prop := ∀ i, i < l.length → C[off + i * 10]? = some (.int .i64 (l.getD i .nil).id) ∧ C[off + i * 10 + 1]? = some (.int .i64 (l.getD i .nil).c) ∧ C[off + i * 10 + 2]? = some (.int .i64 (l.getD i .nil).t) ∧ C[off + i * 10 + 3]? = some (.int .i64 (l.getD i .nil).x) ∧ C[off + i * 10 + 4]? = some (.int .i64 (l.getD i .nil).y) ∧ C[off + i * 10 + 5]? = some (.int .i64 (l.getD i .nil).s) ∧ C[off + i * 10 + 6]? = some (.int .i64 (l.getD i .nil).sl) ∧ C[off + i * 10 + 7]? = some (.int .i64 (l.getD i .nil).lo) ∧ C[off + i * 10 + 8]? = some (.int .i64 (l.getD i .nil).hi) ∧ C[off + i * 10 + 9]? = some (.bool (l.getD i .nil).no)
/-- What the iterator reads. -/
structure StC (Dp : Nat) (z : Ci) (b off cap : Nat) (l : List Th) (C : Array Value) (W : World) : Prop where
  d : W.heap[Dp]? = some (.cells #[.int .i64 z.id, .int .i64 z.x, .int .i64 z.y, .int .i64 z.f, .int .i64 z.t, .int .i64 z.lo, .int .i64 z.hi, .int .i64 z.dr, .slice (some ⟨b, off, none⟩) l.length cap] 119 (0, 0))
  r : W.heap[b]? = some (.cells C 128 (0, 0))
/-- What a round must keep. -/
def pK (k : Nat) (t : TypeId) : Prop := t = 119 ∨ t = 128
theorem StC.round {Dp : Nat} {z : Ci} {b off cap : Nat} {l : List Th} {C : Array Value} {A B : World} (h : StC Dp z b off cap l C A) (k : KpP pK A B) : StC Dp z b off cap l C B :=
  ⟨(k.cells _ _ _ _ h.d (.inl rfl)).trans h.d, (k.cells _ _ _ _ h.r (.inr rfl)).trans h.r⟩
theorem StC.below {Dp : Nat} {z : Ci} {b off cap : Nat} {l : List Th} {C : Array Value} {A B : World} (h : StC Dp z b off cap l C A) (k : Below A.heap.size A B) : StC Dp z b off cap l C B := h.round (KpP.of_below k)
theorem ThC.at {C : Array Value} {off : Nat} {l : List Th} (h : ThC C off l) {W : World} {b : Nat} {t : TypeId} {f : Nat × Nat} (hb : W.heap[b]? = some (.cells C t f)) {i : Nat} (hi : i < l.length) : ThAt W b off i (l.getD i .nil) := by
  obtain ⟨c0, c1, c2, c3, c4, c5, c6, c7, c8, c9⟩ := h i hi
  exact ⟨(cellH hb _).trans c0, (cellH hb _).trans c1, (cellH hb _).trans c2, (cellH hb _).trans c3, (cellH hb _).trans c4, (cellH hb _).trans c5, (cellH hb _).trans c6, (cellH hb _).trans c7, (cellH hb _).trans c8, (cellH hb _).trans c9⟩
set_option maxRecDepth 100000 in
set_option maxHeartbeats 8000000 in
theorem clashes1_seq (n Dp b off cap : Nat) (z : Ci) (l : List Th) (C : Array Value) (hc : ThC C off l) (hl : l.length ≤ 100) (hcap : l.length ≤ cap) (hd : 0 ≤ z.dr ∧ z.dr ≤ 60) (hok : ∀ h ∈ l, h.ok) :
    SeqN Tryz.prog n 119 #[.pointer (some ⟨Dp, 0, none⟩)] (fun x : Pi2 => #[p2V x]) 128 (KpP pK) (clL z.dr l) (StC Dp z b off cap l C) := by
  rintro y J Jx W hSt hyl hJ hJx hY h0
  have HSt := Lib.hid hSt; have HJ := Lib.hid hJ; have HJx := Lib.hid hJx; have HY := Lib.hid hY
  have HC := Lib.hid hc; have HOK := Lib.hid hok; have HLEN := Lib.hid hl; have HCAP := Lib.hid hcap
  have HCL := Lib.hid (fun v g h w' hg hh => clash_any z v g h w' hd hg hh)
  have HJ0 := Lib.hid h0
  clear hSt hJ hJx hY hc hok hl hcap hd h0
  obtain ⟨zi, zx, zy, zf, zt, zl, zh, dr⟩ := z
  simp only at HCL ⊢
  refine callsIn_of_wp Tryz.func119 rfl trivial ?_ rfl
  simp only [Tryz.ntmps119, List.size_toArray, List.length_cons, List.length_nil, Nat.reduceAdd, Nat.reduceSub, Array.replicate_succ, Array.replicate_zero, List.push_toArray, List.append_toArray, List.nil_append, List.cons_append]
  have d8 := cellH HSt.out.d 8
  simp only [List.getElem?_toArray, List.getElem?_cons_zero, List.getElem?_cons_succ] at d8
  gi_wp2
  clear d8
  gi_loopw [10] (fun i wr => ∃ (k : Nat) (pre : List Pi2), k ≤ l.length ∧ i = .int .i64 k ∧ Hid (pre ++ clL dr (l.drop k) = clL dr l) ∧ Hid (J pre wr) ∧ Hid (StC Dp ⟨zi, zx, zy, zf, zt, zl, zh, dr⟩ b off cap l C wr) ∧ Hid (W.heap.size ≤ wr.heap.size)) (fun i _ => l.length - (intOf i).toNat)
  case atStart => exact ⟨0, [], Nat.zero_le _, rfl, Lib.hid rfl, HJ0, HSt, Lib.hid (Nat.le_refl _)⟩
  case round =>
    obtain ⟨k, pre, hk, rfl, hP, hJp, hS, hZ⟩ := hrel
    by_cases hkl : k < l.length
    · obtain ⟨e0, e1, e2, e3, e4, e5, e6, e7, e8, e9⟩ := HC.out.at hS.out.r hkl
      have hki : (k : Int) < l.length := by omega
      have hk0 : (0 : Int) ≤ k := by omega
      have hlen := HLEN.out
      have hcap := HCAP.out
      have HKL := Lib.hid hkl
      have HDR := Lib.hid (clL_drop (dr := dr) hkl)
      have HAOK := Lib.hid (HOK.out (l.getD k .nil) (by rw [List.getD_eq_getElem?_getD, List.getElem?_eq_getElem hkl]; exact List.getElem_mem _))
      obtain ⟨X, hX⟩ : ∃ X, l.getD k .nil = X := ⟨_, rfl⟩
      rw [hX] at e0 e1 e2 e3 e4 e5 e6 e7 e8 e9 HDR HAOK
      clear hX
      obtain ⟨g0, g1, g2, g3, g4, g5, g6, g7, g8, g9⟩ := X
      simp only at e0 e1 e2 e3 e4 e5 e6 e7 e8 e9 HDR
      have hB1 : Below wr.heap.size wr (wr.alloc (.cells #[.int .i64 g0, .int .i64 g1, .int .i64 g2, .int .i64 g3, .int .i64 g4, .int .i64 g5, .int .i64 g6, .int .i64 g7, .int .i64 g8, .bool g9] 128)) := (Below.refl _ wr).alloc (Nat.le_refl _) _
      have HJ1 := Lib.hid (HJ.out _ _ _ hJp.out (OwnTo.of_below hB1 hZ.out))
      have HS1 := Lib.hid (hS.out.below hB1)
      have HA1 : Hid ((wr.alloc (.cells #[.int .i64 g0, .int .i64 g1, .int .i64 g2, .int .i64 g3, .int .i64 g4, .int .i64 g5, .int .i64 g6, .int .i64 g7, .int .i64 g8, .bool g9] 128)).heap[wr.heap.size]? = some (.cells #[.int .i64 g0, .int .i64 g1, .int .i64 g2, .int .i64 g3, .int .i64 g4, .int .i64 g5, .int .i64 g6, .int .i64 g7, .int .i64 g8, .bool g9] 128 (0, 0))) := Lib.hid (heap_alloc_new _ _)
      have HZ1 : Hid (W.heap.size ≤ (wr.alloc (.cells #[.int .i64 g0, .int .i64 g1, .int .i64 g2, .int .i64 g3, .int .i64 g4, .int .i64 g5, .int .i64 g6, .int .i64 g7, .int .i64 g8, .bool g9] 128)).heap.size) := Lib.hid (Nat.le_trans hZ.out hB1.size)
      obtain ⟨ab, hab⟩ : ∃ x, wr.heap.size = x := ⟨_, rfl⟩
      rw [hab] at HA1
      obtain ⟨w1, hw1⟩ : ∃ X, wr.alloc (.cells #[.int .i64 g0, .int .i64 g1, .int .i64 g2, .int .i64 g3, .int .i64 g4, .int .i64 g5, .int .i64 g6, .int .i64 g7, .int .i64 g8, .bool g9] 128) = X := ⟨_, rfl⟩
      rw [hw1] at HJ1 HS1 HA1 HZ1
      have HW1 := Lib.hid hw1
      clear hB1 hw1
      have a0 := cellH HA1.out 0
      have a1 := cellH HA1.out 1
      have a2 := cellH HA1.out 2
      have a3 := cellH HA1.out 3
      have a4 := cellH HA1.out 4
      have a5 := cellH HA1.out 5
      have a6 := cellH HA1.out 6
      have a7 := cellH HA1.out 7
      have a8 := cellH HA1.out 8
      have a9 := cellH HA1.out 9
      simp only [List.getElem?_toArray, List.getElem?_cons_zero, List.getElem?_cons_succ] at a0 a1 a2 a3 a4 a5 a6 a7 a8 a9
      have d8 := cellH HS1.out.d 8
      simp only [List.getElem?_toArray, List.getElem?_cons_zero, List.getElem?_cons_succ] at d8
      cases g9
      · rw [← HW1.out] at a9 d8
        clear a0 a1 a2 a3 a4 a5 a6 a7 a8
        have HP1 : Hid (pre ++ (clT dr ⟨g0, g1, g2, g3, g4, g5, g6, g7, g8, false⟩ (l.drop (k + 1)) ++ clL dr (l.drop (k + 1))) = clL dr l) := Lib.hid (by
          have h := HDR.out
          simp only [Bool.false_eq_true, if_false, List.nil_append] at h
          rw [← h]; exact hP.out)
        clear HDR hP hJp hS
        gi_wp2
        refine ⟨(fun f h => by cases h), ?_⟩
        gi_wp2
        · rw [HW1.out]
          clear HW1 a9 d8 e0 e1 e2 e3 e4 e5 e6 e7 e8 e9
          subst h
          gi_loopw [35] (fun i wr => i = .int .i64 (0 : Nat) ∧ Hid (pre ++ clL dr (l.drop (k + 1)) = clL dr l) ∧ Hid (J (pre) wr) ∧ Hid (StC Dp ⟨zi, zx, zy, zf, zt, zl, zh, dr⟩ b off (k + 1) l C wr) ∧ Hid (W.heap.size ≤ wr.heap.size)) (fun i _ => 0)
          case atStart =>
            refine ⟨rfl, Lib.hid ?_, HJ1, HS1, HZ1⟩
            have h := HP1.out
            rw [List.drop_eq_nil_of_le (by omega)] at h
            rw [List.drop_eq_nil_of_le (by omega)]
            simpa [clT, clL] using h
          case round =>
            obtain ⟨rfl, hQ, hJq, hSq, hZq⟩ := hrel
            have hjn : l.length - (k + 1) = 0 := by omega
            have hkl : k < l.length := by omega
            have ek : IntKind.i64.wrap ((k : Int) + 1) = (k : Int) + 1 := IntWalk.i64_in _ (by omega)
            gi_wp2
            go_roundw
            case rel => exact ⟨k + 1, pre, by omega, rfl, hQ, hJq, hSq, hZq⟩
            case measure => simp [intOf]; omega
        · rw [HW1.out]
          clear HW1 a9 d8 e0 e1 e2 e3 e4 e5 e6 e7 e8 e9
          gi_loopw [35] (fun i wr => ∃ (j : Nat) (qre : List Pi2), k + 1 + j ≤ l.length ∧ i = .int .i64 j ∧ Hid (qre ++ (clT dr ⟨g0, g1, g2, g3, g4, g5, g6, g7, g8, false⟩ (l.drop (k + 1 + j)) ++ clL dr (l.drop (k + 1))) = clL dr l) ∧ Hid (J qre wr) ∧ Hid (StC Dp ⟨zi, zx, zy, zf, zt, zl, zh, dr⟩ b off cap l C wr) ∧ Hid (W.heap.size ≤ wr.heap.size) ∧ Hid (wr.heap[ab]? = some (.cells #[.int .i64 g0, .int .i64 g1, .int .i64 g2, .int .i64 g3, .int .i64 g4, .int .i64 g5, .int .i64 g6, .int .i64 g7, .int .i64 g8, .bool false] 128 (0, 0)))) (fun i _ => l.length - (intOf i).toNat)
          case atStart => exact ⟨0, pre, by omega, rfl, HP1, HJ1, HS1, HZ1, HA1⟩
          case round =>
            obtain ⟨j, qre, hj, rfl, hQ, hJq, hSq, hZq, hAq⟩ := hrel
            by_cases hjl : k + 1 + j < l.length
            · obtain ⟨b0, b1, b2, b3, b4, b5, b6, b7, b8, b9⟩ := HC.out.at hSq.out.r hjl
              have hji : (j : Int) < (l.length - (k + 1) : Nat) := by omega
              have hj0 : (0 : Int) ≤ j := by omega
              have hjn : j < l.length - (k + 1) := by omega
              have ej : IntKind.i64.wrap ((j : Int) + 1) = (j : Int) + 1 := IntWalk.i64_in _ (by omega)
              have HBR := Lib.hid (clT_drop (dr := dr) (a := ⟨g0, g1, g2, g3, g4, g5, g6, g7, g8, false⟩) hjl)
              have HBOK := Lib.hid (HOK.out (l.getD (k + 1 + j) .nil) (by rw [List.getD_eq_getElem?_getD, List.getElem?_eq_getElem hjl]; exact List.getElem_mem _))
              have hoff : off + (k + 1) * 10 + j * 10 = off + (k + 1 + j) * 10 := by omega
              rw [← hoff] at b0 b1 b2 b3 b4 b5 b6 b7 b8 b9
              clear hoff
              obtain ⟨X, hX⟩ : ∃ X, l.getD (k + 1 + j) .nil = X := ⟨_, rfl⟩
              rw [hX] at b0 b1 b2 b3 b4 b5 b6 b7 b8 b9 HBR HBOK
              clear hX
              obtain ⟨p0, p1, p2, p3, p4, p5, p6, p7, p8, p9⟩ := X
              simp only at b0 b1 b2 b3 b4 b5 b6 b7 b8 b9 HBR
              have hB2 : Below wr.heap.size wr (wr.alloc (.cells #[.int .i64 p0, .int .i64 p1, .int .i64 p2, .int .i64 p3, .int .i64 p4, .int .i64 p5, .int .i64 p6, .int .i64 p7, .int .i64 p8, .bool p9] 128)) := (Below.refl _ wr).alloc (Nat.le_refl _) _
              have HJ2 := Lib.hid (HJ.out _ _ _ hJq.out (OwnTo.of_below hB2 hZq.out))
              have HS2 := Lib.hid (hSq.out.below hB2)
              have HB2 : Hid ((wr.alloc (.cells #[.int .i64 p0, .int .i64 p1, .int .i64 p2, .int .i64 p3, .int .i64 p4, .int .i64 p5, .int .i64 p6, .int .i64 p7, .int .i64 p8, .bool p9] 128)).heap[wr.heap.size]? = some (.cells #[.int .i64 p0, .int .i64 p1, .int .i64 p2, .int .i64 p3, .int .i64 p4, .int .i64 p5, .int .i64 p6, .int .i64 p7, .int .i64 p8, .bool p9] 128 (0, 0))) := Lib.hid (heap_alloc_new _ _)
              have HZ2 : Hid (W.heap.size ≤ (wr.alloc (.cells #[.int .i64 p0, .int .i64 p1, .int .i64 p2, .int .i64 p3, .int .i64 p4, .int .i64 p5, .int .i64 p6, .int .i64 p7, .int .i64 p8, .bool p9] 128)).heap.size) := Lib.hid (Nat.le_trans hZq.out hB2.size)
              have HA2 := Lib.hid ((KpP.of_below (p := pK) hB2).cells _ _ _ _ hAq.out (.inr rfl) |>.trans hAq.out)
              clear hB2 hJq hSq hZq hAq
              obtain ⟨bb, hbb⟩ : ∃ x, wr.heap.size = x := ⟨_, rfl⟩
              rw [hbb] at HB2
              obtain ⟨w2, hw2⟩ : ∃ X, wr.alloc (.cells #[.int .i64 p0, .int .i64 p1, .int .i64 p2, .int .i64 p3, .int .i64 p4, .int .i64 p5, .int .i64 p6, .int .i64 p7, .int .i64 p8, .bool p9] 128) = X := ⟨_, rfl⟩
              rw [hw2] at HJ2 HS2 HB2 HA2 HZ2
              have HCC : Hid (∀ v, Calls Tryz.prog 120 #[dlV ⟨zi, zx, zy, zf, zt, zl, zh, dr⟩ v, Th.val ⟨g0, g1, g2, g3, g4, g5, g6, g7, g8, false⟩, Th.val ⟨p0, p1, p2, p3, p4, p5, p6, p7, p8, p9⟩] w2 fun e w3 => e = .returned (.bool (clB dr ⟨g0, g1, g2, g3, g4, g5, g6, g7, g8, false⟩ ⟨p0, p1, p2, p3, p4, p5, p6, p7, p8, p9⟩)) ∧ Below w2.heap.size w2 w3) := Lib.hid fun v => HCL.out v _ _ w2 HAOK.out HBOK.out
              have a0 := cellH HA2.out 0
              have a1 := cellH HA2.out 1
              have a2 := cellH HA2.out 2
              have a3 := cellH HA2.out 3
              have a4 := cellH HA2.out 4
              have a5 := cellH HA2.out 5
              have a6 := cellH HA2.out 6
              have a7 := cellH HA2.out 7
              have a8 := cellH HA2.out 8
              have a9 := cellH HA2.out 9
              have q0 := cellH HB2.out 0
              have q1 := cellH HB2.out 1
              have q2 := cellH HB2.out 2
              have q3 := cellH HB2.out 3
              have q4 := cellH HB2.out 4
              have q5 := cellH HB2.out 5
              have q6 := cellH HB2.out 6
              have q7 := cellH HB2.out 7
              have q8 := cellH HB2.out 8
              have q9 := cellH HB2.out 9
              have d0 := cellH HS2.out.d 0
              have d1 := cellH HS2.out.d 1
              have d2 := cellH HS2.out.d 2
              have d3 := cellH HS2.out.d 3
              have d4 := cellH HS2.out.d 4
              have d5 := cellH HS2.out.d 5
              have d6 := cellH HS2.out.d 6
              have d7 := cellH HS2.out.d 7
              have d8 := cellH HS2.out.d 8
              simp only [List.getElem?_toArray, List.getElem?_cons_zero, List.getElem?_cons_succ] at a0 q0 a1 q1 a2 q2 a3 q3 a4 q4 a5 q5 a6 q6 a7 q7 a8 q8 a9 q9 d0 d1 d2 d3 d4 d5 d6 d7 d8
              obtain ⟨cl, hcl⟩ : ∃ c, clB dr ⟨g0, g1, g2, g3, g4, g5, g6, g7, g8, false⟩ ⟨p0, p1, p2, p3, p4, p5, p6, p7, p8, p9⟩ = c := ⟨_, rfl⟩
              rw [hcl] at HBR HCC
              clear hcl
              have HW2 := Lib.hid hw2
              gi_wp2
              refine ⟨trivial, (fun h => by cases h), (callsIn_wide.2 (HCC.out _)).mono ?_⟩
              rintro e3 w3 ⟨rfl, hb3⟩
              have HJ3 := Lib.hid (HJ.out _ _ _ HJ2.out (OwnTo.of_below hb3 HZ2.out))
              have HS3 := Lib.hid (HS2.out.below hb3)
              have HZ3 := Lib.hid (Nat.le_trans HZ2.out hb3.size)
              have HA3 := Lib.hid (((KpP.of_below (p := pK) hb3).cells _ _ _ _ HA2.out (.inr rfl)).trans HA2.out)
              have x0 := cellH HA3.out 0
              have y0 := cellH (((KpP.of_below (p := pK) hb3).cells _ _ _ _ HB2.out (.inr rfl)).trans HB2.out) 0
              simp only [List.getElem?_toArray, List.getElem?_cons_zero, List.getElem?_cons_succ] at x0 y0
              clear hb3 HJ2 HS2 HZ2 HA2 HB2 HCC hw2 a0 a1 a2 a3 a4 a5 a6 a7 a8 a9 q0 q1 q2 q3 q4 q5 q6 q7 q8 q9 d0 d1 d2 d3 d4 d5 d6 d7 d8
              cases cl
              · have HQ3 : Hid (qre ++ (clT dr ⟨g0, g1, g2, g3, g4, g5, g6, g7, g8, false⟩ (l.drop (k + 1 + (j + 1))) ++ clL dr (l.drop (k + 1))) = clL dr l) := Lib.hid (by
                  have h := HBR.out
                  simp only [Bool.false_eq_true, if_false, List.nil_append] at h
                  rw [← hQ.out, h]; rfl)
                gi_wp2
                refine ⟨(fun f h => by cases h), ?_⟩
                gi_wp2
                go_roundw
                case rel => exact ⟨j + 1, qre, by omega, rfl, HQ3, HJ3, HS3, HZ3, HA3⟩
                case measure => simp [intOf]; omega
              · have HQ3 : Hid ((qre ++ [(g0, p0)]) ++ (clT dr ⟨g0, g1, g2, g3, g4, g5, g6, g7, g8, false⟩ (l.drop (k + 1 + (j + 1))) ++ clL dr (l.drop (k + 1))) = clL dr l) := Lib.hid (by
                  have h := HBR.out
                  simp only [if_true] at h
                  rw [← hQ.out, h]; simp; rfl)
                have HPF : Hid (qre ++ [(g0, p0)] <+: clL dr l) := Lib.hid ⟨_, HQ3.out⟩
                obtain ⟨fn, tmps, assign, body, hy, hR⟩ := HY.out qre (g0, p0) w3 HJ3.out HPF.out
                change Sem.run _ (Instr.yield y #[.agg #[.int .i64 g0, .int .i64 p0]]) w3 = _ at hy
                have HR := Lib.hid hR
                clear hR
                gi_wp2
                refine ⟨(fun h => by cases h), ?_⟩
                refine HR.out.mono ?_
                rintro e4 W4 (⟨rfl, ⟨hJ4, hk4⟩, hkf4⟩ | ⟨rfl, hJx4, hkf4⟩)
                · have HJ4 := Lib.hid hJ4
                  have HS4 := Lib.hid (HS3.out.round hk4)
                  have HZ4 := Lib.hid (Nat.le_trans HZ3.out hk4.size)
                  have HA4 := Lib.hid ((hk4.cells _ _ _ _ HA3.out (.inr rfl)).trans HA3.out)
                  clear hJ4 hk4 hkf4
                  gi_wp2
                  go_roundw
                  case rel => exact ⟨j + 1, qre ++ [(g0, p0)], by omega, rfl, HQ3, HJ4, HS4, HZ4, HA4⟩
                  case measure => simp [intOf]; omega
                · gi_wp2
                  refine bodyPost_ret (results_none rfl _ _ _) rfl ?_
                  exact ⟨⟨_, rfl⟩, .inr ⟨_, HPF.out, hJx4⟩⟩
            · have hje : l.length = k + 1 + j := by omega
              have HE : Hid (qre ++ clL dr (l.drop (k + 1)) = clL dr l) := Lib.hid (by
                have h := hQ.out
                rw [← hje, List.drop_length] at h
                simpa [clT] using h)
              have hjn : ¬ ((j : Int) < (l.length - (k + 1) : Nat)) := by omega
              have hkl : k < l.length := by omega
              have ek : IntKind.i64.wrap ((k : Int) + 1) = (k : Int) + 1 := IntWalk.i64_in _ (by omega)
              clear hQ hje hj hAq
              gi_wp2
              go_roundw
              case rel => exact ⟨k + 1, qre, by omega, rfl, HE, hJq, hSq, hZq⟩
              case measure => simp [intOf]; omega
      · rw [← HW1.out] at a0 a1 a2 a3 a4 a5 a6 a7 a8 a9 d8
        have HP1 : Hid ((pre ++ [(g0, g0)]) ++ (clT dr ⟨g0, g1, g2, g3, g4, g5, g6, g7, g8, true⟩ (l.drop (k + 1)) ++ clL dr (l.drop (k + 1))) = clL dr l) := Lib.hid (by
          rw [← hP.out, HDR.out, if_pos rfl, List.append_assoc])
        have HPF1 : Hid (pre ++ [(g0, g0)] <+: clL dr l) := Lib.hid ⟨_, HP1.out⟩
        clear HDR hP hJp hS
        obtain ⟨fn, tmps, assign, body, hy, hR⟩ := HY.out pre (g0, g0) w1 HJ1.out HPF1.out
        change Sem.run _ (Instr.yield y #[.agg #[.int .i64 g0, .int .i64 g0]]) w1 = _ at hy
        rw [← HW1.out] at hy
        have HR := Lib.hid hR
        clear hR
        gi_wp2
        refine ⟨(fun h => by cases h), ?_⟩
        rw [HW1.out]
        refine HR.out.mono ?_
        have HS0 := HS1
        have HZ0 := HZ1
        have HA0 := HA1
        clear HJ1 HS1 HZ1 HA1
        rintro e4 W4 (⟨rfl, ⟨hJ4, hk4⟩, hkf4⟩ | ⟨rfl, hJx4, hkf4⟩)
        · have HJ1 := Lib.hid hJ4
          have HS1 := Lib.hid (HS0.out.round hk4)
          have HZ1 := Lib.hid (Nat.le_trans HZ0.out hk4.size)
          have HA1 := Lib.hid ((hk4.cells _ _ _ _ HA0.out (.inr rfl)).trans HA0.out)
          have d8 := cellH HS1.out.d 8
          simp only [List.getElem?_toArray, List.getElem?_cons_zero, List.getElem?_cons_succ] at d8
          clear hJ4 hk4 hkf4 HS0 HZ0 HA0 a0 a1 a2 a3 a4 a5 a6 a7 a8 a9 e0 e1 e2 e3 e4 e5 e6 e7 e8 e9 hy
          gi_wp2
          · clear d8
            subst h
            gi_loopw [35] (fun i wr => i = .int .i64 (0 : Nat) ∧ Hid ((pre ++ [(g0, g0)]) ++ clL dr (l.drop (k + 1)) = clL dr l) ∧ Hid (J ((pre ++ [(g0, g0)])) wr) ∧ Hid (StC Dp ⟨zi, zx, zy, zf, zt, zl, zh, dr⟩ b off (k + 1) l C wr) ∧ Hid (W.heap.size ≤ wr.heap.size)) (fun i _ => 0)
            case atStart =>
              refine ⟨rfl, Lib.hid ?_, HJ1, HS1, HZ1⟩
              have h := HP1.out
              rw [List.drop_eq_nil_of_le (by omega)] at h
              rw [List.drop_eq_nil_of_le (by omega)]
              simpa [clT, clL] using h
            case round =>
              obtain ⟨rfl, hQ, hJq, hSq, hZq⟩ := hrel
              have hjn : l.length - (k + 1) = 0 := by omega
              have hkl : k < l.length := by omega
              have ek : IntKind.i64.wrap ((k : Int) + 1) = (k : Int) + 1 := IntWalk.i64_in _ (by omega)
              gi_wp2
              go_roundw
              case rel => exact ⟨k + 1, (pre ++ [(g0, g0)]), by omega, rfl, hQ, hJq, hSq, hZq⟩
              case measure => simp [intOf]; omega
          · clear d8
            gi_loopw [35] (fun i wr => ∃ (j : Nat) (qre : List Pi2), k + 1 + j ≤ l.length ∧ i = .int .i64 j ∧ Hid (qre ++ (clT dr ⟨g0, g1, g2, g3, g4, g5, g6, g7, g8, true⟩ (l.drop (k + 1 + j)) ++ clL dr (l.drop (k + 1))) = clL dr l) ∧ Hid (J qre wr) ∧ Hid (StC Dp ⟨zi, zx, zy, zf, zt, zl, zh, dr⟩ b off cap l C wr) ∧ Hid (W.heap.size ≤ wr.heap.size) ∧ Hid (wr.heap[ab]? = some (.cells #[.int .i64 g0, .int .i64 g1, .int .i64 g2, .int .i64 g3, .int .i64 g4, .int .i64 g5, .int .i64 g6, .int .i64 g7, .int .i64 g8, .bool true] 128 (0, 0)))) (fun i _ => l.length - (intOf i).toNat)
            case atStart => exact ⟨0, (pre ++ [(g0, g0)]), by omega, rfl, HP1, HJ1, HS1, HZ1, HA1⟩
            case round =>
              obtain ⟨j, qre, hj, rfl, hQ, hJq, hSq, hZq, hAq⟩ := hrel
              by_cases hjl : k + 1 + j < l.length
              · obtain ⟨b0, b1, b2, b3, b4, b5, b6, b7, b8, b9⟩ := HC.out.at hSq.out.r hjl
                have hji : (j : Int) < (l.length - (k + 1) : Nat) := by omega
                have hj0 : (0 : Int) ≤ j := by omega
                have hjn : j < l.length - (k + 1) := by omega
                have ej : IntKind.i64.wrap ((j : Int) + 1) = (j : Int) + 1 := IntWalk.i64_in _ (by omega)
                have HBR := Lib.hid (clT_drop (dr := dr) (a := ⟨g0, g1, g2, g3, g4, g5, g6, g7, g8, true⟩) hjl)
                have HBOK := Lib.hid (HOK.out (l.getD (k + 1 + j) .nil) (by rw [List.getD_eq_getElem?_getD, List.getElem?_eq_getElem hjl]; exact List.getElem_mem _))
                have hoff : off + (k + 1) * 10 + j * 10 = off + (k + 1 + j) * 10 := by omega
                rw [← hoff] at b0 b1 b2 b3 b4 b5 b6 b7 b8 b9
                clear hoff
                obtain ⟨X, hX⟩ : ∃ X, l.getD (k + 1 + j) .nil = X := ⟨_, rfl⟩
                rw [hX] at b0 b1 b2 b3 b4 b5 b6 b7 b8 b9 HBR HBOK
                clear hX
                obtain ⟨p0, p1, p2, p3, p4, p5, p6, p7, p8, p9⟩ := X
                simp only at b0 b1 b2 b3 b4 b5 b6 b7 b8 b9 HBR
                have hB2 : Below wr.heap.size wr (wr.alloc (.cells #[.int .i64 p0, .int .i64 p1, .int .i64 p2, .int .i64 p3, .int .i64 p4, .int .i64 p5, .int .i64 p6, .int .i64 p7, .int .i64 p8, .bool p9] 128)) := (Below.refl _ wr).alloc (Nat.le_refl _) _
                have HJ2 := Lib.hid (HJ.out _ _ _ hJq.out (OwnTo.of_below hB2 hZq.out))
                have HS2 := Lib.hid (hSq.out.below hB2)
                have HB2 : Hid ((wr.alloc (.cells #[.int .i64 p0, .int .i64 p1, .int .i64 p2, .int .i64 p3, .int .i64 p4, .int .i64 p5, .int .i64 p6, .int .i64 p7, .int .i64 p8, .bool p9] 128)).heap[wr.heap.size]? = some (.cells #[.int .i64 p0, .int .i64 p1, .int .i64 p2, .int .i64 p3, .int .i64 p4, .int .i64 p5, .int .i64 p6, .int .i64 p7, .int .i64 p8, .bool p9] 128 (0, 0))) := Lib.hid (heap_alloc_new _ _)
                have HZ2 : Hid (W.heap.size ≤ (wr.alloc (.cells #[.int .i64 p0, .int .i64 p1, .int .i64 p2, .int .i64 p3, .int .i64 p4, .int .i64 p5, .int .i64 p6, .int .i64 p7, .int .i64 p8, .bool p9] 128)).heap.size) := Lib.hid (Nat.le_trans hZq.out hB2.size)
                have HA2 := Lib.hid ((KpP.of_below (p := pK) hB2).cells _ _ _ _ hAq.out (.inr rfl) |>.trans hAq.out)
                clear hB2 hJq hSq hZq hAq
                obtain ⟨bb, hbb⟩ : ∃ x, wr.heap.size = x := ⟨_, rfl⟩
                rw [hbb] at HB2
                obtain ⟨w2, hw2⟩ : ∃ X, wr.alloc (.cells #[.int .i64 p0, .int .i64 p1, .int .i64 p2, .int .i64 p3, .int .i64 p4, .int .i64 p5, .int .i64 p6, .int .i64 p7, .int .i64 p8, .bool p9] 128) = X := ⟨_, rfl⟩
                rw [hw2] at HJ2 HS2 HB2 HA2 HZ2
                have HCC : Hid (∀ v, Calls Tryz.prog 120 #[dlV ⟨zi, zx, zy, zf, zt, zl, zh, dr⟩ v, Th.val ⟨g0, g1, g2, g3, g4, g5, g6, g7, g8, true⟩, Th.val ⟨p0, p1, p2, p3, p4, p5, p6, p7, p8, p9⟩] w2 fun e w3 => e = .returned (.bool (clB dr ⟨g0, g1, g2, g3, g4, g5, g6, g7, g8, true⟩ ⟨p0, p1, p2, p3, p4, p5, p6, p7, p8, p9⟩)) ∧ Below w2.heap.size w2 w3) := Lib.hid fun v => HCL.out v _ _ w2 HAOK.out HBOK.out
                have a0 := cellH HA2.out 0
                have a1 := cellH HA2.out 1
                have a2 := cellH HA2.out 2
                have a3 := cellH HA2.out 3
                have a4 := cellH HA2.out 4
                have a5 := cellH HA2.out 5
                have a6 := cellH HA2.out 6
                have a7 := cellH HA2.out 7
                have a8 := cellH HA2.out 8
                have a9 := cellH HA2.out 9
                have q0 := cellH HB2.out 0
                have q1 := cellH HB2.out 1
                have q2 := cellH HB2.out 2
                have q3 := cellH HB2.out 3
                have q4 := cellH HB2.out 4
                have q5 := cellH HB2.out 5
                have q6 := cellH HB2.out 6
                have q7 := cellH HB2.out 7
                have q8 := cellH HB2.out 8
                have q9 := cellH HB2.out 9
                have d0 := cellH HS2.out.d 0
                have d1 := cellH HS2.out.d 1
                have d2 := cellH HS2.out.d 2
                have d3 := cellH HS2.out.d 3
                have d4 := cellH HS2.out.d 4
                have d5 := cellH HS2.out.d 5
                have d6 := cellH HS2.out.d 6
                have d7 := cellH HS2.out.d 7
                have d8 := cellH HS2.out.d 8
                simp only [List.getElem?_toArray, List.getElem?_cons_zero, List.getElem?_cons_succ] at a0 q0 a1 q1 a2 q2 a3 q3 a4 q4 a5 q5 a6 q6 a7 q7 a8 q8 a9 q9 d0 d1 d2 d3 d4 d5 d6 d7 d8
                obtain ⟨cl, hcl⟩ : ∃ c, clB dr ⟨g0, g1, g2, g3, g4, g5, g6, g7, g8, true⟩ ⟨p0, p1, p2, p3, p4, p5, p6, p7, p8, p9⟩ = c := ⟨_, rfl⟩
                rw [hcl] at HBR HCC
                clear hcl
                have HW2 := Lib.hid hw2
                gi_wp2
                refine ⟨trivial, (fun h => by cases h), (callsIn_wide.2 (HCC.out _)).mono ?_⟩
                rintro e3 w3 ⟨rfl, hb3⟩
                have HJ3 := Lib.hid (HJ.out _ _ _ HJ2.out (OwnTo.of_below hb3 HZ2.out))
                have HS3 := Lib.hid (HS2.out.below hb3)
                have HZ3 := Lib.hid (Nat.le_trans HZ2.out hb3.size)
                have HA3 := Lib.hid (((KpP.of_below (p := pK) hb3).cells _ _ _ _ HA2.out (.inr rfl)).trans HA2.out)
                have x0 := cellH HA3.out 0
                have y0 := cellH (((KpP.of_below (p := pK) hb3).cells _ _ _ _ HB2.out (.inr rfl)).trans HB2.out) 0
                simp only [List.getElem?_toArray, List.getElem?_cons_zero, List.getElem?_cons_succ] at x0 y0
                clear hb3 HJ2 HS2 HZ2 HA2 HB2 HCC hw2 a0 a1 a2 a3 a4 a5 a6 a7 a8 a9 q0 q1 q2 q3 q4 q5 q6 q7 q8 q9 d0 d1 d2 d3 d4 d5 d6 d7 d8
                cases cl
                · have HQ3 : Hid (qre ++ (clT dr ⟨g0, g1, g2, g3, g4, g5, g6, g7, g8, true⟩ (l.drop (k + 1 + (j + 1))) ++ clL dr (l.drop (k + 1))) = clL dr l) := Lib.hid (by
                    have h := HBR.out
                    simp only [Bool.false_eq_true, if_false, List.nil_append] at h
                    rw [← hQ.out, h]; rfl)
                  gi_wp2
                  refine ⟨(fun f h => by cases h), ?_⟩
                  gi_wp2
                  go_roundw
                  case rel => exact ⟨j + 1, qre, by omega, rfl, HQ3, HJ3, HS3, HZ3, HA3⟩
                  case measure => simp [intOf]; omega
                · have HQ3 : Hid ((qre ++ [(g0, p0)]) ++ (clT dr ⟨g0, g1, g2, g3, g4, g5, g6, g7, g8, true⟩ (l.drop (k + 1 + (j + 1))) ++ clL dr (l.drop (k + 1))) = clL dr l) := Lib.hid (by
                    have h := HBR.out
                    simp only [if_true] at h
                    rw [← hQ.out, h]; simp; rfl)
                  have HPF : Hid (qre ++ [(g0, p0)] <+: clL dr l) := Lib.hid ⟨_, HQ3.out⟩
                  obtain ⟨fn, tmps, assign, body, hy, hR⟩ := HY.out qre (g0, p0) w3 HJ3.out HPF.out
                  change Sem.run _ (Instr.yield y #[.agg #[.int .i64 g0, .int .i64 p0]]) w3 = _ at hy
                  have HR := Lib.hid hR
                  clear hR
                  gi_wp2
                  refine ⟨(fun h => by cases h), ?_⟩
                  refine HR.out.mono ?_
                  rintro e4 W4 (⟨rfl, ⟨hJ4, hk4⟩, hkf4⟩ | ⟨rfl, hJx4, hkf4⟩)
                  · have HJ4 := Lib.hid hJ4
                    have HS4 := Lib.hid (HS3.out.round hk4)
                    have HZ4 := Lib.hid (Nat.le_trans HZ3.out hk4.size)
                    have HA4 := Lib.hid ((hk4.cells _ _ _ _ HA3.out (.inr rfl)).trans HA3.out)
                    clear hJ4 hk4 hkf4
                    gi_wp2
                    go_roundw
                    case rel => exact ⟨j + 1, qre ++ [(g0, p0)], by omega, rfl, HQ3, HJ4, HS4, HZ4, HA4⟩
                    case measure => simp [intOf]; omega
                  · gi_wp2
                    refine bodyPost_ret (results_none rfl _ _ _) rfl ?_
                    exact ⟨⟨_, rfl⟩, .inr ⟨_, HPF.out, hJx4⟩⟩
              · have hje : l.length = k + 1 + j := by omega
                have HE : Hid (qre ++ clL dr (l.drop (k + 1)) = clL dr l) := Lib.hid (by
                  have h := hQ.out
                  rw [← hje, List.drop_length] at h
                  simpa [clT] using h)
                have hjn : ¬ ((j : Int) < (l.length - (k + 1) : Nat)) := by omega
                have hkl : k < l.length := by omega
                have ek : IntKind.i64.wrap ((k : Int) + 1) = (k : Int) + 1 := IntWalk.i64_in _ (by omega)
                clear hQ hje hj hAq
                gi_wp2
                go_roundw
                case rel => exact ⟨k + 1, qre, by omega, rfl, HE, hJq, hSq, hZq⟩
                case measure => simp [intOf]; omega
        · gi_wp2
          refine bodyPost_ret (results_none rfl _ _ _) rfl ?_
          exact ⟨⟨_, rfl⟩, .inr ⟨_, HPF1.out, hJx4⟩⟩
    · obtain rfl : k = l.length := by omega
      have HJE : Hid (J (clL dr l) wr) := Lib.hid (by
        have h := hP.out
        rw [List.drop_length] at h
        have h2 : pre = clL dr l := by simpa [clL] using h
        rw [← h2]; exact hJp.out)
      clear hJp hP
      gi_wp2
      go_end0
      exact ⟨⟨_, rfl⟩, .inl HJE.out⟩
end Go.Proofs.YtebdboacmeafaaaGreat
/- Package circle: all the pairs of a dial, and whether there is one. -/
set_option linter.unusedVariables false
set_option linter.unusedSimpArgs false
namespace Go.Proofs.YtebdboacmeafaaaGreat
open Go Go.RowKit
attribute [local go_sem] Oper.semAt_some

def ckF1 (Dp : Nat) : Value := .func (.func 119) #[] #[.pointer (some ⟨Dp, 0, none⟩)]
set_option maxRecDepth 100000 in
set_option maxHeartbeats 4000000 in
theorem clashes_any (z : Ci) (v : Value) (w : World) :
    Calls Tryz.prog 81 #[dlV z v] w fun e w' => ∃ Dp, e = .returned (ckF1 Dp) ∧ Below w.heap.size w w' ∧ w'.heap[Dp]? = some (.cells #[.int .i64 z.id, .int .i64 z.x, .int .i64 z.y, .int .i64 z.f, .int .i64 z.t, .int .i64 z.lo, .int .i64 z.hi, .int .i64 z.dr, v] 119 (0, 0)) := by
  obtain ⟨zi, zx, zy, zf, zt, zl, zh, dr⟩ := z
  show Calls Tryz.prog 81 #[.agg #[.int .i64 zi, .int .i64 zx, .int .i64 zy, .int .i64 zf, .int .i64 zt, .int .i64 zl, .int .i64 zh, .int .i64 dr, v]] w _
  have HB : Hid (Below w.heap.size w (w.alloc (.cells #[.int .i64 zi, .int .i64 zx, .int .i64 zy, .int .i64 zf, .int .i64 zt, .int .i64 zl, .int .i64 zh, .int .i64 dr, v] 119))) := Lib.hid ((Below.refl _ w).alloc (Nat.le_refl _) _)
  have HN : Hid ((w.alloc (.cells #[.int .i64 zi, .int .i64 zx, .int .i64 zy, .int .i64 zf, .int .i64 zt, .int .i64 zl, .int .i64 zh, .int .i64 dr, v] 119)).heap[w.heap.size]? = some (.cells #[.int .i64 zi, .int .i64 zx, .int .i64 zy, .int .i64 zf, .int .i64 zt, .int .i64 zl, .int .i64 zh, .int .i64 dr, v] 119 (0, 0))) := Lib.hid (heap_alloc_new _ _)
  go_enter Tryz.func81, Tryz.ntmps81
  go_wp2_with fail
  go_ret
  exact ⟨_, rfl, HB.out, HN.out⟩
theorem contra_results {tmps : Array Value} {w : World} {R : Nat} {v : Value} (h : tmps.getD 2 undef = .pointer (some ⟨R, 0, none⟩)) (hg : w.cell? ⟨R, 0, none⟩ = some v) : (results Tryz.f63 tmps).run Tryz.prog w = .ok v w := by
  have h' : tmps[2]?.getD undef = .pointer (some ⟨R, 0, none⟩) := by simpa using h
  simp [results, Tryz.results63, asAddr, h', hg, go_sem]
theorem StC.of {W : World} {v : Value} {l : List Th} (h : ThRow W v l) (ho : ThOwn W v) : ∃ b off cap C, v = .slice (some ⟨b, off, none⟩) l.length cap ∧ l.length ≤ cap ∧ W.heap[b]? = some (.cells C 128 (0, 0)) ∧ ThC C off l := by
  obtain ⟨g, n, cap, C, rfl, hC⟩ := ho
  rcases h with ⟨a, c, hv, rfl⟩ | ⟨b, off, c, hv, hp, hb, hc⟩
  · cases hv
    exact ⟨g, 0, _, C, rfl, Nat.zero_le _, hC, fun i hi => by simp at hi⟩
  · cases hv
    refine ⟨g, 0, _, C, rfl, hp, hC, fun i hi => ?_⟩
    obtain ⟨c0, c1, c2, c3, c4, c5, c6, c7, c8, c9⟩ := hc i hi
    exact ⟨(cellH hC _).symm.trans c0, (cellH hC _).symm.trans c1, (cellH hC _).symm.trans c2, (cellH hC _).symm.trans c3, (cellH hC _).symm.trans c4, (cellH hC _).symm.trans c5, (cellH hC _).symm.trans c6, (cellH hC _).symm.trans c7, (cellH hC _).symm.trans c8, (cellH hC _).symm.trans c9⟩
/-- Whether something contradicts something. -/
def ctB (dr : Int) (l : List Th) : Bool := !(clL dr l).isEmpty

set_option maxRecDepth 100000 in
set_option maxHeartbeats 8000000 in
theorem contradicted_any (z : Ci) (v : Value) (l : List Th) (w : World) (hv : ThRow w v l) (ho : ThOwn w v) (hl : l.length ≤ 100) (hd : 0 ≤ z.dr ∧ z.dr ≤ 60) (hok : ∀ h ∈ l, h.ok) :
    Calls Tryz.prog 63 #[dlV z v] w fun e w' => e = .returned (.bool (ctB z.dr l)) ∧ Below w.heap.size w w' := by
  have HV := Lib.hid hv
  have HO := Lib.hid ho
  have HCB := Lib.hid (fun w' => clashes_any z v w')
  have HFB : Hid (ctB z.dr l = !(clL z.dr l).isEmpty) := Lib.hid rfl
  obtain ⟨fb, hfb⟩ : ∃ x, ctB z.dr l = x := ⟨_, rfl⟩
  rw [hfb] at HFB ⊢
  clear hv ho hfb
  obtain ⟨zi, zx, zy, zf, zt, zl, zh, dr⟩ := z
  simp only at HFB hd
  show Calls Tryz.prog 63 #[.agg #[.int .i64 zi, .int .i64 zx, .int .i64 zy, .int .i64 zf, .int .i64 zt, .int .i64 zl, .int .i64 zh, .int .i64 dr, v]] w _
  have HCC : Hid (∀ w', Calls Tryz.prog 81 #[.agg #[.int .i64 zi, .int .i64 zx, .int .i64 zy, .int .i64 zf, .int .i64 zt, .int .i64 zl, .int .i64 zh, .int .i64 dr, v]] w' fun e w'' => ∃ Dp, e = .returned (ckF1 Dp) ∧ Below w'.heap.size w' w'' ∧ w''.heap[Dp]? = some (.cells #[.int .i64 zi, .int .i64 zx, .int .i64 zy, .int .i64 zf, .int .i64 zt, .int .i64 zl, .int .i64 zh, .int .i64 dr, v] 119 (0, 0))) := Lib.hid (fun w' => HCB.out w')
  have HB1 : Hid (Below w.heap.size w (w.alloc (.cells #[.int .i64 zi, .int .i64 zx, .int .i64 zy, .int .i64 zf, .int .i64 zt, .int .i64 zl, .int .i64 zh, .int .i64 dr, v] 119))) := Lib.hid ((Below.refl _ w).alloc (Nat.le_refl _) _)
  have HN1 : Hid ((w.alloc (.cells #[.int .i64 zi, .int .i64 zx, .int .i64 zy, .int .i64 zf, .int .i64 zt, .int .i64 zl, .int .i64 zh, .int .i64 dr, v] 119)).heap[w.heap.size]? = some (.cells #[.int .i64 zi, .int .i64 zx, .int .i64 zy, .int .i64 zf, .int .i64 zt, .int .i64 zl, .int .i64 zh, .int .i64 dr, v] 119 (0, 0))) := Lib.hid (heap_alloc_new _ _)
  clear HCB
  refine callsIn_wide.1 (?_ : CallsIn Fence.wide 7 _ _ _ _ _)
  refine callsIn_of_wp_marks Tryz.func63 rfl trivial ?_ rfl
  simp only [Tryz.ntmps63, List.size_toArray, List.length_cons, List.length_nil, Nat.reduceAdd, Nat.reduceSub, Array.replicate_succ, Array.replicate_zero, List.push_toArray, List.append_toArray, List.nil_append, List.cons_append]
  refine wpIn_wide.2 ?_
  go_wp2_with fail
  obtain ⟨W1, hW1⟩ : ∃ X, (w.alloc (.cells #[.int .i64 zi, .int .i64 zx, .int .i64 zy, .int .i64 zf, .int .i64 zt, .int .i64 zl, .int .i64 zh, .int .i64 dr, v] 119)).alloc (.cells #[.bool false] 4) = X := ⟨_, rfl⟩
  have HB2 : Hid (Below w.heap.size w W1) := Lib.hid (by rw [← hW1]; exact HB1.out.alloc HB1.out.size _)
  have HR2 : Hid (W1.heap[w.heap.size + 1]? = some (.cells #[.bool false] 4 (0, 0))) := Lib.hid (by
    rw [← hW1]
    have h := heap_alloc_new (w.alloc (.cells #[.int .i64 zi, .int .i64 zx, .int .i64 zy, .int .i64 zf, .int .i64 zt, .int .i64 zl, .int .i64 zh, .int .i64 dr, v] 119)) (.cells #[.bool false] 4)
    simpa using h)
  try rw [hW1]
  clear HB1 HN1 hW1
  refine (HCC.out _).mono ?_
  rintro e w2 ⟨Dp, rfl, hb3, hst⟩
  have HB3 := Lib.hid (HB2.out.trans (hb3.mono HB2.out.size))
  have HRR : Hid (w2.heap[w.heap.size + 1]? = some (.cells #[.bool false] 4 (0, 0)) ∧ w.heap.size + 1 < w2.heap.size) := Lib.hid (by
    have h3 := (Array.getElem?_eq_some_iff.1 HR2.out).1
    exact ⟨(hb3.block _ h3).trans HR2.out, Nat.lt_of_lt_of_le h3 hb3.size⟩)
  obtain ⟨b, off, cap, C, rfl, hcap, hb0, hc⟩ := StC.of HV.out HO.out
  have HI : Hid (StC Dp ⟨zi, zx, zy, zf, zt, zl, zh, dr⟩ b off cap l C w2) := Lib.hid ⟨hst, (HB3.out.block _ (Array.getElem?_eq_some_iff.1 hb0).1).trans hb0⟩
  clear hb3 hst hb0 HCC HB2 HR2 HV HO
  unfold ckF1
  go_wp2_with fail
  refine wpIn_wide.1 (?_ : Code.wpIn Fence.wide 7 _ _ _ _ _)
  refine rangeN (n := 7) (gf := 119) (lb := #[.pointer (some ⟨Dp, 0, none⟩)]) rfl (enters_of Tryz.func119 (by kernel_rfl) rfl)
    (clashes1_seq 6 Dp b off cap ⟨zi, zx, zy, zf, zt, zl, zh, dr⟩ l C hc hl hcap hd hok) ?st (fun A B h => KpP.of_below h) (fun _ _ _ h k => h.trans k) (fun Y l ob ob' _ h hc _ => KpP.putObj h hc) (fun _ => rfl)
    (fun pre Y => pre = [] ∧ Below w.heap.size w Y ∧ Y.heap[w.heap.size + 1]? = some (.cells #[.bool false] 4 (0, 0)))
    (fun c pre Y => c = .ret ∧ pre ≠ [] ∧ Below w.heap.size w Y ∧ Y.heap[w.heap.size + 1]? = some (.cells #[.bool true] 4 (0, 0))) ?i ?ix ?ii ?iix ?h0
    (fun x a' Y => a' = { tmps := #[.agg #[.int .i64 zi, .int .i64 zx, .int .i64 zy, .int .i64 zf, .int .i64 zt, .int .i64 zl, .int .i64 zh, .int .i64 dr, .slice (some ⟨b, off, none⟩) l.length cap], .pointer (some ⟨w.heap.size, 0, none⟩), .pointer (some ⟨w.heap.size + 1, 0, none⟩), .agg #[.int .i64 zi, .int .i64 zx, .int .i64 zy, .int .i64 zf, .int .i64 zt, .int .i64 zl, .int .i64 zh, .int .i64 dr, .slice (some ⟨b, off, none⟩) l.length cap], .func (.func 119) #[] #[.pointer (some ⟨Dp, 0, none⟩)], .agg #[.int .i64 x.1, .int .i64 x.2]], defers := [] }) ?hv ?assign ?body ?done ?stop
  case st => exact fun ob ob' => HI.out.below (((Below.refl _ w2).alloc (Nat.le_refl _) ob).alloc (by simp) ob')
  case i => exact fun s A B row h hg hr => ⟨h.1, h.2.1.grown hg (by have := HB3.out.size; exact h.2.1.size) (fun r e => by have := (hr r e).1; have := HB3.out.size; omega), (hg.block _ (Array.getElem?_eq_some_iff.1 h.2.2).1 (fun e => by have := (hr _ e.symm).1; have := HRR.out.2; omega)).trans h.2.2⟩
  case ix => exact fun c s A B row h hg hr => ⟨h.1, h.2.1, h.2.2.1.grown hg (by exact h.2.2.1.size) (fun r e => by have := (hr r e).1; have := HB3.out.size; omega), (hg.block _ (Array.getElem?_eq_some_iff.1 h.2.2.2).1 (fun e => by have := (hr _ e.symm).1; have := HRR.out.2; omega)).trans h.2.2.2⟩
  case ii => exact fun s A B h k => ⟨h.1, k.below h.2.1 (by have := HB3.out.size; omega), (k.low _ (by have := HRR.out.2; omega)).trans h.2.2⟩
  case iix => exact fun c s A B h k => ⟨h.1, h.2.1, k.below h.2.2.1 (by have := HB3.out.size; omega), (k.low _ (by have := HRR.out.2; omega)).trans h.2.2.2⟩
  case h0 => exact ⟨rfl, HB3.out, HRR.out.1⟩
  case hv => exact fun x a' _ A B row h hg hr => h
  case assign =>
    intro l' pre x Y K hI hK
    gi_wp2
    refine hK _ _ (Below.refl _ _) ?_
    simp [go_sem, p2V]
  case body =>
    rintro l' pre x a' Y ⟨rfl, hBY, hRY⟩ rfl hlt
    have q0 := cellH hRY 0
    have q1 := freeH hRY 0
    simp at q0
    have HBY := Lib.hid hBY
    have HRY := Lib.hid hRY
    have HN := Lib.hid (heap_same hRY 0 (.bool true))
    clear hBY hRY hc hok hlt hcap hd
    gi_wp2
    exact ⟨(KeepsOthers.setCell _ _ _).from _, rfl, by simp, HBY.out.setCell (p := ⟨w.heap.size + 1, 0, none⟩) (by simp) _, HN.out⟩
  case done =>
    rintro D Y hD ⟨hL, hBY, hRY⟩ hK
    have q0 := cellH hRY 0
    have q1 := freeH hRY 0
    simp at q0
    have HBY := Lib.hid (hBY.setCell (p := ⟨w.heap.size + 1, 0, none⟩) (by simp) (.bool false))
    have HN := Lib.hid (heap_same hRY 0 (.bool false))
    have HK : Hid ((Y.setCell ⟨w.heap.size + 1, 0, none⟩ (.bool false)).heap[D]? = some (.deferred (some []))) := Lib.hid ((heap_other _ _ _ _ _ (fun e => by rw [e, hRY] at hK; cases hK)).trans hK)
    have HF : Hid (fb = false) := Lib.hid (by rw [HFB.out, hL]; rfl)
    clear hBY hRY hK hL
    simp only [Exit.inBlock, Exit.then]
    go_wp2_with fail
    try rw [Exit.noGoto_ret]
    exact leaves_marks5 (F := Fence.wide) (n := 7) w.heap.size [D] _ (by simp) (fun D' hD' => by
      obtain rfl : D' = D := by simpa using hD'
      exact ⟨by have := HRR.out.2; omega, HK.out⟩) (fun W' hk hb' => ⟨_, contra_results rfl (cellH (hk.2 _ _ _ _ HN.out) 0), by rw [HF.out]; rfl, HBY.out.trans hb'⟩)
  case stop =>
    rintro D c pre Y hD hpre ⟨rfl, hne, hBY, hRY⟩ hK
    have HBY := Lib.hid hBY
    have HN := Lib.hid hRY
    have HK := Lib.hid hK
    have HF : Hid (fb = true) := Lib.hid (by
      rw [HFB.out]
      cases hbk : clL dr l with
      | nil => rw [hbk] at hpre; exact absurd (List.prefix_nil.1 hpre) hne
      | cons _ _ => rfl)
    clear hBY hRY hK hpre hne
    gi_wp2
    try rw [Exit.noGoto_ret]
    exact leaves_marks5 (F := Fence.wide) (n := 7) w.heap.size [D] _ (by simp) (fun D' hD' => by
      obtain rfl : D' = D := by simpa using hD'
      exact ⟨by have := HRR.out.2; omega, HK.out⟩) (fun W' hk hb' => ⟨_, contra_results rfl (cellH (hk.2 _ _ _ _ HN.out) 0), by rw [HF.out]; rfl, HBY.out.trans hb'⟩)
end Go.Proofs.YtebdboacmeafaaaGreat
/- Package circle: the things of a circle as one sorted list. -/
set_option linter.unusedVariables false
set_option linter.unusedSimpArgs false
namespace Go.Proofs.YtebdboacmeafaaaGreat
open Go Go.RowKit

def insH (a : Th) : List Th → List Th
  | [] => [a]
  | b :: l => if a.id ≤ b.id then a :: b :: l else b :: insH a l
def srtH (l : List Th) : List Th := l.foldr insH []
theorem insH_perm (a : Th) : ∀ l, (insH a l).Perm (a :: l)
  | [] => List.Perm.refl _
  | b :: l => by
    unfold insH
    split
    · exact List.Perm.refl _
    · exact ((insH_perm a l).cons b).trans (List.Perm.swap a b l)
theorem insH_ord (a : Th) : ∀ l : List Th, l.Pairwise (fun s t => s.id ≤ t.id) → (insH a l).Pairwise (fun s t => s.id ≤ t.id)
  | [], _ => List.pairwise_singleton _ _
  | b :: l, h => by
    obtain ⟨h1, h2⟩ := List.pairwise_cons.1 h
    unfold insH
    split
    · rename_i hab
      refine List.pairwise_cons.2 ⟨fun x hx => ?_, h⟩
      rcases List.mem_cons.1 hx with rfl | hx
      · exact hab
      · exact Int.le_trans hab (h1 x hx)
    · rename_i hab
      refine List.pairwise_cons.2 ⟨fun x hx => ?_, insH_ord a l h2⟩
      rcases List.mem_cons.1 ((insH_perm a l).mem_iff.1 hx) with rfl | hx
      · omega
      · exact h1 x hx
theorem srtH_perm : ∀ l : List Th, (srtH l).Perm l
  | [] => List.Perm.refl _
  | a :: l => (insH_perm a _).trans ((srtH_perm l).cons a)
theorem srtH_ord : ∀ l : List Th, (srtH l).Pairwise (fun s t => s.id ≤ t.id)
  | [] => List.Pairwise.nil
  | a :: l => insH_ord a _ (srtH_ord l)
theorem OrdH.eq {L l : List Th} (h : OrdH L l) : L = srtH l := by
  refine List.Perm.eq_of_pairwise (le := fun s t : Th => s.id ≤ t.id) ?_ (h.2.imp fun {a b} hab => Int.le_of_lt hab) (srtH_ord l) (h.1.trans (srtH_perm l).symm)
  intro a b ha hb h1 h2
  have hb' : b ∈ L := h.1.mem_iff.2 ((srtH_perm l).mem_iff.1 hb)
  obtain ⟨i, hi, rfl⟩ := List.getElem_of_mem ha
  obtain ⟨j, hj, rfl⟩ := List.getElem_of_mem hb'
  have hp := List.pairwise_iff_getElem.1 h.2
  rcases Nat.lt_trichotomy i j with hij | rfl | hij
  · have := hp i j hi hj hij; omega
  · rfl
  · have := hp j i hj hi hij; omega
/-- The things of a circle in their order. -/
def dlL (z : Ci) (ks : List Ck) : List Th := srtH (thL z ks)
theorem Th.of_ok {x y : Int} {k : Ck} (h : 0 ≤ k.t ∧ k.t ≤ 1048576) : (Th.of x y k).ok := by
  unfold Th.of Th.ok
  refine ⟨h, ?_⟩
  cases hb : alB x y k
  · simp
  · unfold alB at hb
    have h1 : alL x y k ≤ alH x y k := by simpa using hb
    have h2 : -300 ≤ alL x y k := by unfold alL; omega
    have h3 : alH x y k ≤ 300 := by unfold alH; omega
    simp only [if_true]
    omega
theorem ciF_ok {cs : List Ci} {ks : List Ck} (ho : CcOk cs ks) {id : Int} {z : Ci} (h : ciF cs id = some z) : z.ok = true := by
  obtain ⟨j, hj, hz, _⟩ := ciF_mem h
  have := (ho.ci j hj).1
  rwa [hz] at this
theorem dlL_ok {cs : List Ci} {ks : List Ck} (ho : CcOk cs ks) {id : Int} {z : Ci} (h : ciF cs id = some z) : ∀ t ∈ dlL z ks, t.ok := by
  intro t ht
  have hm := (srtH_perm (thL z ks)).mem_iff.1 ht
  have hz := Ci.ok_iff.1 (ciF_ok ho h)
  unfold thL at hm
  rcases List.mem_cons.1 hm with rfl | hm
  · unfold Th.beg Th.ok
    simp only
    omega
  · obtain ⟨k, hk, rfl⟩ := List.mem_map.1 hm
    obtain ⟨j, hj, hjk⟩ := List.getElem_of_mem ((List.mem_filter.1 hk).1)
    obtain ⟨⟨y, hy⟩, _⟩ := ho.ck j hj
    have e1 : ks.getD j .nil = k := by rw [List.getD_eq_getElem?_getD, List.getElem?_eq_getElem hj]; exact hjk
    rw [e1] at hy
    have hy2 := Ci.ok_iff.1 (ciF_ok ho hy.of)
    have := hy.t
    exact Th.of_ok ⟨by omega, by omega⟩
theorem dlL_len {cs : List Ci} {ks : List Ck} (ho : CcOk cs ks) (z : Ci) : (dlL z ks).length ≤ 61 := by
  unfold dlL
  rw [(srtH_perm _).length_eq]
  unfold thL
  rw [List.length_cons, List.length_map]
  have := List.length_filter_le (fun k => k.c == z.id) ks
  have := ho.m
  omega
def dl0 : Value := .agg #[.int .i64 0, .int .i64 0, .int .i64 0, .int .i64 0, .int .i64 0, .int .i64 0, .int .i64 0, .int .i64 0, .slice none 0 0]
/-- The answer of dialOf. -/
def DlOut (R : Option Ci) (ks : List Ck) (w : World) (e : Ending) (w' : World) : Prop :=
  Below w.heap.size w w' ∧ match R with
    | none => e = .returned (.tuple #[dl0, .bool false])
    | some z => ∃ v, e = .returned (.tuple #[dlV z v, .bool true]) ∧ ThRow w' v (dlL z ks) ∧ ThOwn w' v
theorem dialOf_one (v1 v2 : Value) (cs : List Ci) (ks : List Ck) (id : Int) (w : World) (hv1 : CiRow w v1 cs) (hv2 : CkRow w v2 ks) (ho : CcOk cs ks) :
    Calls Tryz.prog 61 #[.agg #[v1, v2], .int .i64 id] w fun e w' => DlOut (ciF cs id) ks w e w' := by
  refine (dialOf_any v1 v2 cs ks id w hv1 hv2 ho).mono ?_
  rintro e w' ⟨hb, h⟩
  refine ⟨hb, ?_⟩
  cases hc : ciF cs id with
  | none => rw [hc] at h; exact h
  | some z =>
    rw [hc] at h
    obtain ⟨v, L, he, hr, hL, hO⟩ := h
    exact ⟨v, he, by unfold dlL; rw [← hL.eq]; exact hr, hO⟩
end Go.Proofs.YtebdboacmeafaaaGreat
/- Package circle: a circle at a minute. -/
set_option linter.unusedVariables false
set_option linter.unusedSimpArgs false
namespace Go.Proofs.YtebdboacmeafaaaGreat
open Go Go.RowKit

theorem ThOwn.keep {w w' : World} {v : Value} (h : ThOwn w v) (hb : Below w.heap.size w w') : ThOwn w' v := by
  obtain ⟨g, n, cap, C, rfl, hC⟩ := h
  exact ⟨g, n, cap, C, rfl, (hb.block _ (Array.getElem?_eq_some_iff.1 hC).1).trans hC⟩
theorem same9 {W : World} {q g : Nat} (h : g ≠ q) (y0 y1 y2 y3 y4 y5 y6 y7 y8 : Value) : (((((((((W.setCell ⟨q, 0, none⟩ y0).setCell ⟨q, 1, none⟩ y1).setCell ⟨q, 2, none⟩ y2).setCell ⟨q, 3, none⟩ y3).setCell ⟨q, 4, none⟩ y4).setCell ⟨q, 5, none⟩ y5).setCell ⟨q, 6, none⟩ y6).setCell ⟨q, 7, none⟩ y7).setCell ⟨q, 8, none⟩ y8).heap[g]? = W.heap[g]? := by
  rw [heap_other _ _ _ _ _ h, heap_other _ _ _ _ _ h, heap_other _ _ _ _ _ h, heap_other _ _ _ _ _ h, heap_other _ _ _ _ _ h, heap_other _ _ _ _ _ h, heap_other _ _ _ _ _ h, heap_other _ _ _ _ _ h, heap_other _ _ _ _ _ h]
/-- The code that dialAt answers. -/
def dtE (R : Option Ci) (ks : List Ck) (t : Int) : Int :=
  match R with
  | none => 5
  | some z => if ciB t z.f z.t = true then (if ctB z.dr (dlL z ks) = true then 9 else 0) else 1
/-- The answer of dialAt. -/
def DtOut (R : Option Ci) (ks : List Ck) (t : Int) (w : World) (e : Ending) (w' : World) : Prop :=
  Below w.heap.size w w' ∧ (dtE R ks t ≠ 0 → e = .returned (.tuple #[dl0, .int .i64 (dtE R ks t)])) ∧ (dtE R ks t = 0 → ∃ z v, R = some z ∧ e = .returned (.tuple #[dlV z v, .int .i64 0]) ∧ ThRow w' v (dlL z ks) ∧ ThOwn w' v)
set_option maxRecDepth 100000 in
set_option maxHeartbeats 8000000 in
theorem dialAt_any (v1 v2 : Value) (cs : List Ci) (ks : List Ck) (id t : Int) (w : World) (hv1 : CiRow w v1 cs) (hv2 : CkRow w v2 ks) (ho : CcOk cs ks) :
    Calls Tryz.prog 87 #[.agg #[v1, v2], .int .i64 id, .int .i64 t] w fun e w' => DtOut (ciF cs id) ks t w e w' := by
  have HDO := Lib.hid (fun w' (h : Below w.heap.size w w') => dialOf_one v1 v2 cs ks id w' (hv1.keep h) (hv2.keep h) ho)
  have HOK := Lib.hid (fun z h => dlL_ok ho (id := id) (z := z) h)
  have HCI := Lib.hid (fun z h => ciF_ok ho (id := id) (z := z) h)
  have HLE := Lib.hid (fun z => dlL_len ho z)
  have HE : Hid (dtE (ciF cs id) ks t = _) := Lib.hid (dtE.eq_def (ciF cs id) ks t)
  obtain ⟨R, hR⟩ : ∃ R, ciF cs id = R := ⟨_, rfl⟩
  obtain ⟨E, hE⟩ : ∃ E, dtE (ciF cs id) ks t = E := ⟨_, rfl⟩
  unfold DtOut
  rw [hE] at HE ⊢
  rw [hR] at HDO HOK HCI HE ⊢
  clear hE hR hv1 hv2
  go_enter Tryz.func87, Tryz.ntmps87
  go_wp2_with fail
  have HA := Lib.hid (fun W' => two_cells w #[v1, v2] #[.int .i64 0, .int .i64 0, .int .i64 0, .int .i64 0, .int .i64 0, .int .i64 0, .int .i64 0, .int .i64 0, .slice none 0 0] 25 119 (W := W'))
  have HB0 := Lib.hid (Below.refl ((w.alloc (.cells #[v1, v2] 25)).alloc (.cells #[.int .i64 0, .int .i64 0, .int .i64 0, .int .i64 0, .int .i64 0, .int .i64 0, .int .i64 0, .int .i64 0, .slice none 0 0] 119)).heap.size ((w.alloc (.cells #[v1, v2] 25)).alloc (.cells #[.int .i64 0, .int .i64 0, .int .i64 0, .int .i64 0, .int .i64 0, .int .i64 0, .int .i64 0, .int .i64 0, .slice none 0 0] 119)))
  obtain ⟨Z, hZ⟩ : ∃ Z, (w.alloc (.cells #[v1, v2] 25)).alloc (.cells #[.int .i64 0, .int .i64 0, .int .i64 0, .int .i64 0, .int .i64 0, .int .i64 0, .int .i64 0, .int .i64 0, .slice none 0 0] 119) = Z := ⟨_, rfl⟩
  rw [hZ] at HA HB0 ⊢
  have HRD : Hid (∀ W', Below Z.heap.size Z W' → Below w.heap.size w W') := Lib.hid (fun W' h => (HA.out W' h).2.2.2)
  clear hZ
  refine (HDO.out Z (HRD.out Z HB0.out)).mono ?_
  rintro e w1 ⟨hb1, hd1⟩
  have HB1 := Lib.hid hb1
  clear hb1
  cases R with
  | none =>
    simp only at hd1
    subst hd1
    have HN : Hid (E = 5) := Lib.hid HE.out
    unfold dl0
    have HY : Hid (Below Z.heap.size Z (w1.alloc (.cells #[.int .i64 0, .int .i64 0, .int .i64 0, .int .i64 0, .int .i64 0, .int .i64 0, .int .i64 0, .int .i64 0, .slice none 0 0] 119))) := Lib.hid (HB1.out.alloc HB1.out.size _)
    have HW : Hid ((w1.alloc (.cells #[.int .i64 0, .int .i64 0, .int .i64 0, .int .i64 0, .int .i64 0, .int .i64 0, .int .i64 0, .int .i64 0, .slice none 0 0] 119)).heap[w1.heap.size]? = some (.cells #[.int .i64 0, .int .i64 0, .int .i64 0, .int .i64 0, .int .i64 0, .int .i64 0, .int .i64 0, .int .i64 0, .slice none 0 0] 119 (0, 0))) := Lib.hid (heap_alloc_new _ _)
    have r0 := cellH (HA.out _ HY.out).2.1 0
    have r1 := cellH (HA.out _ HY.out).2.1 1
    have r2 := cellH (HA.out _ HY.out).2.1 2
    have r3 := cellH (HA.out _ HY.out).2.1 3
    have r4 := cellH (HA.out _ HY.out).2.1 4
    have r5 := cellH (HA.out _ HY.out).2.1 5
    have r6 := cellH (HA.out _ HY.out).2.1 6
    have r7 := cellH (HA.out _ HY.out).2.1 7
    have r8 := cellH (HA.out _ HY.out).2.1 8
    have rf := freeH (HA.out _ HY.out).2.1
    have d0 := cellH HW.out 0
    have d1 := cellH HW.out 1
    have d2 := cellH HW.out 2
    have d3 := cellH HW.out 3
    have d4 := cellH HW.out 4
    have d5 := cellH HW.out 5
    have d6 := cellH HW.out 6
    have d7 := cellH HW.out 7
    have d8 := cellH HW.out 8
    simp only [List.getElem?_toArray, List.getElem?_cons_zero, List.getElem?_cons_succ] at r0 r1 r2 r3 r4 r5 r6 r7 r8 d0 d1 d2 d3 d4 d5 d6 d7 d8
    go_wp2_with fail
    obtain ⟨z1, z2⟩ := set9 (HA.out _ HY.out).2.1 (HRD.out _ HY.out) (by omega) (.int .i64 0) (.int .i64 0) (.int .i64 0) (.int .i64 0) (.int .i64 0) (.int .i64 0) (.int .i64 0) (.int .i64 0) (.slice none 0 0)
    refine bodyPost_ret (res_ct Tryz.results87 _ _ (w.heap.size + 1) 119 #[.int .i64 0, .int .i64 0, .int .i64 0, .int .i64 0, .int .i64 0, .int .i64 0, .int .i64 0, .int .i64 0, .slice none 0 0] (0, 0) _ rfl z1 Tryz.underlying119 rfl info_di9) rfl ?_
    exact ⟨z2, fun _ => by rw [HN.out]; rfl, fun h => absurd h (by rw [HN.out]; decide)⟩
  | some z =>
    obtain ⟨v, rfl, hr, hO⟩ := hd1
    have HR := Lib.hid hr
    have HTO := Lib.hid hO
    obtain ⟨g, n, cap, _, rfl, _⟩ := hO
    have hzo := Ci.ok_iff.1 (HCI.out z rfl)
    have HZO := Lib.hid hzo
    have HTT := Lib.hid (HOK.out z rfl)
    have HL := Lib.hid (HLE.out z)
    obtain ⟨L, hL⟩ : ∃ L, dlL z ks = L := ⟨_, rfl⟩
    simp only at HE
    rw [hL] at HE HR HTT HL
    obtain ⟨zi, zx, zy, zf, zt, zl, zh, dr⟩ := z
    simp only at HE HZO
    have HCT : Hid (∀ w', Below w1.heap.size w1 w' → Calls Tryz.prog 63 #[.agg #[.int .i64 zi, .int .i64 zx, .int .i64 zy, .int .i64 zf, .int .i64 zt, .int .i64 zl, .int .i64 zh, .int .i64 dr, .slice (some ⟨g, 0, none⟩) n cap]] w' fun e w'' => e = .returned (.bool (ctB dr L)) ∧ Below w'.heap.size w' w'') := Lib.hid (fun w' h => contradicted_any ⟨zi, zx, zy, zf, zt, zl, zh, dr⟩ (.slice (some ⟨g, 0, none⟩) n cap) L w' (HR.out.keep h) (HTO.out.keep h) (by have := HL.out; omega) (by have := HZO.out; simp only; omega) HTT.out)
    have HWI : Hid (∀ w', Calls Tryz.prog 62 #[.int .i64 t, .int .i64 zf, .int .i64 zt] w' fun e w'' => e = .returned (.bool (ciB t zf zt)) ∧ w'' = w') := Lib.hid (fun w' => qwithin_any t zf zt w')
    clear hr hzo
    unfold dlV
    simp only
    obtain ⟨c1, hc1⟩ : ∃ c, ciB t zf zt = c := ⟨_, rfl⟩
    obtain ⟨c2, hc2⟩ : ∃ c, ctB dr L = c := ⟨_, rfl⟩
    rw [hc1] at HWI HE
    rw [hc2] at HCT HE
    clear hc1 hc2
    have HY : Hid (Below Z.heap.size Z (w1.alloc (.cells #[.int .i64 zi, .int .i64 zx, .int .i64 zy, .int .i64 zf, .int .i64 zt, .int .i64 zl, .int .i64 zh, .int .i64 dr, .slice (some ⟨g, 0, none⟩) n cap] 119))) := Lib.hid (HB1.out.alloc HB1.out.size _)
    have HW : Hid ((w1.alloc (.cells #[.int .i64 zi, .int .i64 zx, .int .i64 zy, .int .i64 zf, .int .i64 zt, .int .i64 zl, .int .i64 zh, .int .i64 dr, .slice (some ⟨g, 0, none⟩) n cap] 119)).heap[w1.heap.size]? = some (.cells #[.int .i64 zi, .int .i64 zx, .int .i64 zy, .int .i64 zf, .int .i64 zt, .int .i64 zl, .int .i64 zh, .int .i64 dr, .slice (some ⟨g, 0, none⟩) n cap] 119 (0, 0))) := Lib.hid (heap_alloc_new _ _)
    have r0 := cellH (HA.out _ HY.out).2.1 0
    have r1 := cellH (HA.out _ HY.out).2.1 1
    have r2 := cellH (HA.out _ HY.out).2.1 2
    have r3 := cellH (HA.out _ HY.out).2.1 3
    have r4 := cellH (HA.out _ HY.out).2.1 4
    have r5 := cellH (HA.out _ HY.out).2.1 5
    have r6 := cellH (HA.out _ HY.out).2.1 6
    have r7 := cellH (HA.out _ HY.out).2.1 7
    have r8 := cellH (HA.out _ HY.out).2.1 8
    have rf := freeH (HA.out _ HY.out).2.1
    have d0 := cellH HW.out 0
    have d1 := cellH HW.out 1
    have d2 := cellH HW.out 2
    have d3 := cellH HW.out 3
    have d4 := cellH HW.out 4
    have d5 := cellH HW.out 5
    have d6 := cellH HW.out 6
    have d7 := cellH HW.out 7
    have d8 := cellH HW.out 8
    simp only [List.getElem?_toArray, List.getElem?_cons_zero, List.getElem?_cons_succ] at r0 r1 r2 r3 r4 r5 r6 r7 r8 d0 d1 d2 d3 d4 d5 d6 d7 d8
    have HL1 : Hid (w1.heap.size < (w1.alloc (.cells #[.int .i64 zi, .int .i64 zx, .int .i64 zy, .int .i64 zf, .int .i64 zt, .int .i64 zl, .int .i64 zh, .int .i64 dr, .slice (some ⟨g, 0, none⟩) n cap] 119)).heap.size) := Lib.hid (by simp)
    have HQ1 : Hid (Below w1.heap.size w1 (w1.alloc (.cells #[.int .i64 zi, .int .i64 zx, .int .i64 zy, .int .i64 zf, .int .i64 zt, .int .i64 zl, .int .i64 zh, .int .i64 dr, .slice (some ⟨g, 0, none⟩) n cap] 119))) := Lib.hid ((Below.refl _ w1).alloc (Nat.le_refl _) _)
    obtain ⟨Y, hY⟩ : ∃ Y, w1.alloc (.cells #[.int .i64 zi, .int .i64 zx, .int .i64 zy, .int .i64 zf, .int .i64 zt, .int .i64 zl, .int .i64 zh, .int .i64 dr, .slice (some ⟨g, 0, none⟩) n cap] 119) = Y := ⟨_, rfl⟩
    rw [hY] at HY HW HL1 HQ1 r0 r1 r2 r3 r4 r5 r6 r7 r8 rf d0 d1 d2 d3 d4 d5 d6 d7 d8
    obtain ⟨db, hdb⟩ : ∃ n, w1.heap.size = n := ⟨_, rfl⟩
    rw [hdb] at HW d0 d1 d2 d3 d4 d5 d6 d7 d8
    go_wp2_with fail
    clear hY
    refine (HWI.out Y).mono ?_
    rintro e w2 ⟨rfl, rfl⟩
    cases c1
    · have HN : Hid (E = 1) := Lib.hid HE.out
      go_wp2_with fail
      obtain ⟨z1, z2⟩ := set9 (HA.out _ HY.out).2.1 (HRD.out _ HY.out) (by omega) (.int .i64 0) (.int .i64 0) (.int .i64 0) (.int .i64 0) (.int .i64 0) (.int .i64 0) (.int .i64 0) (.int .i64 0) (.slice none 0 0)
      refine bodyPost_ret (res_ct Tryz.results87 _ _ (w.heap.size + 1) 119 #[.int .i64 0, .int .i64 0, .int .i64 0, .int .i64 0, .int .i64 0, .int .i64 0, .int .i64 0, .int .i64 0, .slice none 0 0] (0, 0) _ rfl z1 Tryz.underlying119 rfl info_di9) rfl ?_
      exact ⟨z2, fun _ => by rw [HN.out]; rfl, fun h => absurd h (by rw [HN.out]; decide)⟩
    · go_wp2_with fail
      refine (HCT.out _ HQ1.out).mono ?_
      rintro e w3 ⟨rfl, hb3⟩
      have HQ3 := Lib.hid (HQ1.out.trans (hb3.mono HQ1.out.size))
      have HY3 := Lib.hid (HY.out.trans (hb3.mono HY.out.size))
      have HW3 := Lib.hid ((hb3.block _ (by have := HL1.out; omega)).trans HW.out)
      clear hb3 r0 r1 r2 r3 r4 r5 r6 r7 r8 rf d0 d1 d2 d3 d4 d5 d6 d7 d8
      have r0 := cellH (HA.out _ HY3.out).2.1 0
      have r1 := cellH (HA.out _ HY3.out).2.1 1
      have r2 := cellH (HA.out _ HY3.out).2.1 2
      have r3 := cellH (HA.out _ HY3.out).2.1 3
      have r4 := cellH (HA.out _ HY3.out).2.1 4
      have r5 := cellH (HA.out _ HY3.out).2.1 5
      have r6 := cellH (HA.out _ HY3.out).2.1 6
      have r7 := cellH (HA.out _ HY3.out).2.1 7
      have r8 := cellH (HA.out _ HY3.out).2.1 8
      have rf := freeH (HA.out _ HY3.out).2.1
      have d0 := cellH HW3.out 0
      have d1 := cellH HW3.out 1
      have d2 := cellH HW3.out 2
      have d3 := cellH HW3.out 3
      have d4 := cellH HW3.out 4
      have d5 := cellH HW3.out 5
      have d6 := cellH HW3.out 6
      have d7 := cellH HW3.out 7
      have d8 := cellH HW3.out 8
      simp only [List.getElem?_toArray, List.getElem?_cons_zero, List.getElem?_cons_succ] at r0 r1 r2 r3 r4 r5 r6 r7 r8 d0 d1 d2 d3 d4 d5 d6 d7 d8
      cases c2
      · have HN : Hid (E = 0) := Lib.hid HE.out
        go_wp2_with fail
        obtain ⟨z1, z2⟩ := set9 (HA.out _ HY3.out).2.1 (HRD.out _ HY3.out) (by omega) (.int .i64 zi) (.int .i64 zx) (.int .i64 zy) (.int .i64 zf) (.int .i64 zt) (.int .i64 zl) (.int .i64 zh) (.int .i64 dr) (.slice (some ⟨g, 0, none⟩) n cap)
        refine bodyPost_ret (res_ct Tryz.results87 _ _ (w.heap.size + 1) 119 #[.int .i64 zi, .int .i64 zx, .int .i64 zy, .int .i64 zf, .int .i64 zt, .int .i64 zl, .int .i64 zh, .int .i64 dr, .slice (some ⟨g, 0, none⟩) n cap] (0, 0) _ rfl z1 Tryz.underlying119 rfl info_di9) rfl ?_
        have hr3 := HR.out.keep HQ3.out
        obtain ⟨g', n', cap', C', hv', hC'⟩ := HTO.out.keep HQ3.out
        cases hv'
        have hne : g ≠ w.heap.size + 1 := by
          rintro rfl
          have h1 := hC'.symm.trans (HA.out _ HY3.out).2.1
          simp at h1
        have hs := same9 (W := w3) hne (.int .i64 zi) (.int .i64 zx) (.int .i64 zy) (.int .i64 zf) (.int .i64 zt) (.int .i64 zl) (.int .i64 zh) (.int .i64 dr) (.slice (some ⟨g, 0, none⟩) n cap)
        exact ⟨z2, fun h => absurd HN.out h, fun _ => ⟨_, _, rfl, rfl, by rw [hL]; exact hr3.same hs, ⟨g, n, cap, C', rfl, hs.trans hC'⟩⟩⟩
      · have HN : Hid (E = 9) := Lib.hid HE.out
        go_wp2_with fail
        obtain ⟨z1, z2⟩ := set9 (HA.out _ HY3.out).2.1 (HRD.out _ HY3.out) (by omega) (.int .i64 0) (.int .i64 0) (.int .i64 0) (.int .i64 0) (.int .i64 0) (.int .i64 0) (.int .i64 0) (.int .i64 0) (.slice none 0 0)
        refine bodyPost_ret (res_ct Tryz.results87 _ _ (w.heap.size + 1) 119 #[.int .i64 0, .int .i64 0, .int .i64 0, .int .i64 0, .int .i64 0, .int .i64 0, .int .i64 0, .int .i64 0, .slice none 0 0] (0, 0) _ rfl z1 Tryz.underlying119 rfl info_di9) rfl ?_
        exact ⟨z2, fun _ => by rw [HN.out]; rfl, fun h => absurd h (by rw [HN.out]; decide)⟩
end Go.Proofs.YtebdboacmeafaaaGreat
