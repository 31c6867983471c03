/- Package circle: the iterator of the pairs that contradict each other. -/
import Derived.Test.YtpaihnjgpookjaaCB9
import Derived.Test.YtpaihnjgpookjaaHI0
set_option linter.unusedVariables false
set_option linter.unusedSimpArgs false
namespace Go.Proofs.Ytpaihnjgpookjaa
open Go Go.RowKit

abbrev Pi2 := Int × Int
def p2V (p : Pi2) : Value := .agg #[.int .i64 p.1, .int .i64 p.2]
/-- The pairs that contradict each other, in order. -/
def clL (dr : Int) : List Th → List Pi2
  | [] => []
  | a :: l => (if a.no = true then [(a.id, a.id)] else []) ++ ((l.filter fun b => clB dr a b).map fun b => (a.id, b.id)) ++ clL dr l
def clT (dr : Int) (a : Th) (l : List Th) : List Pi2 := (l.filter fun b => clB dr a b).map fun b => (a.id, b.id)
theorem clL_drop {dr : Int} {l : List Th} {k : Nat} (hk : k < l.length) : clL dr (l.drop k) = (if (l.getD k .nil).no = true then [((l.getD k .nil).id, (l.getD k .nil).id)] else []) ++ (clT dr (l.getD k .nil) (l.drop (k + 1)) ++ clL dr (l.drop (k + 1))) := by
  rw [List.drop_eq_getElem_cons hk, List.getD_eq_getElem?_getD, List.getElem?_eq_getElem hk]
  show (_ ++ _) ++ _ = _
  rw [List.append_assoc]; rfl
theorem clT_drop {dr : Int} {a : Th} {l : List Th} {k : Nat} (hk : k < l.length) : clT dr a (l.drop k) = (if clB dr a (l.getD k .nil) = true then [(a.id, (l.getD k .nil).id)] else []) ++ clT dr a (l.drop (k + 1)) := by
  unfold clT
  rw [List.drop_eq_getElem_cons hk, List.getD_eq_getElem?_getD, List.getElem?_eq_getElem hk, List.filter_cons]
  simp only [Option.getD_some]
  split <;> simp
/-- The cells of things. -/
def ThC (C : Array Value) (off : Nat) (l : List Th) : Prop := ∀ i, i < l.length → C[off + i * 10]? = some (.int .i64 (l.getD i .nil).id) ∧ C[off + i * 10 + 1]? = some (.int .i64 (l.getD i .nil).c) ∧ C[off + i * 10 + 2]? = some (.int .i64 (l.getD i .nil).t) ∧ C[off + i * 10 + 3]? = some (.int .i64 (l.getD i .nil).x) ∧ C[off + i * 10 + 4]? = some (.int .i64 (l.getD i .nil).y) ∧ C[off + i * 10 + 5]? = some (.int .i64 (l.getD i .nil).s) ∧ C[off + i * 10 + 6]? = some (.int .i64 (l.getD i .nil).sl) ∧ C[off + i * 10 + 7]? = some (.int .i64 (l.getD i .nil).lo) ∧ C[off + i * 10 + 8]? = some (.int .i64 (l.getD i .nil).hi) ∧ C[off + i * 10 + 9]? = some (.bool (l.getD i .nil).no)
/-- What the iterator reads. -/
structure StC (Dp : Nat) (z : Ci) (b off cap : Nat) (l : List Th) (C : Array Value) (W : World) : Prop where
  d : W.heap[Dp]? = some (.cells #[.int .i64 z.id, .int .i64 z.x, .int .i64 z.y, .int .i64 z.f, .int .i64 z.t, .int .i64 z.lo, .int .i64 z.hi, .int .i64 z.dr, .slice (some ⟨b, off, none⟩) l.length cap] 112 (0, 0))
  r : W.heap[b]? = some (.cells C 125 (0, 0))
/-- What a round must keep. -/
def pK (k : Nat) (t : TypeId) : Prop := t = 112 ∨ t = 125
theorem StC.round {Dp : Nat} {z : Ci} {b off cap : Nat} {l : List Th} {C : Array Value} {A B : World} (h : StC Dp z b off cap l C A) (k : KpP pK A B) : StC Dp z b off cap l C B :=
  ⟨(k.cells _ _ _ _ h.d (.inl rfl)).trans h.d, (k.cells _ _ _ _ h.r (.inr rfl)).trans h.r⟩
theorem StC.below {Dp : Nat} {z : Ci} {b off cap : Nat} {l : List Th} {C : Array Value} {A B : World} (h : StC Dp z b off cap l C A) (k : Below A.heap.size A B) : StC Dp z b off cap l C B := h.round (KpP.of_below k)
theorem ThC.at {C : Array Value} {off : Nat} {l : List Th} (h : ThC C off l) {W : World} {b : Nat} {t : TypeId} {f : Nat × Nat} (hb : W.heap[b]? = some (.cells C t f)) {i : Nat} (hi : i < l.length) : ThAt W b off i (l.getD i .nil) := by
  obtain ⟨c0, c1, c2, c3, c4, c5, c6, c7, c8, c9⟩ := h i hi
  exact ⟨(cellH hb _).trans c0, (cellH hb _).trans c1, (cellH hb _).trans c2, (cellH hb _).trans c3, (cellH hb _).trans c4, (cellH hb _).trans c5, (cellH hb _).trans c6, (cellH hb _).trans c7, (cellH hb _).trans c8, (cellH hb _).trans c9⟩
set_option maxRecDepth 100000 in
set_option maxHeartbeats 8000000 in
theorem clashes1_seq (n Dp b off cap : Nat) (z : Ci) (l : List Th) (C : Array Value) (hc : ThC C off l) (hl : l.length ≤ 100) (hcap : l.length ≤ cap) (hd : 0 ≤ z.dr ∧ z.dr ≤ 60) (hok : ∀ h ∈ l, h.ok) :
    SeqN Try.prog n 98 #[.pointer (some ⟨Dp, 0, none⟩)] (fun x : Pi2 => #[p2V x]) 125 (KpP pK) (clL z.dr l) (StC Dp z b off cap l C) := by
  rintro y J Jx W hSt hyl hJ hJx hY h0
  have HSt := Lib.hid hSt; have HJ := Lib.hid hJ; have HJx := Lib.hid hJx; have HY := Lib.hid hY
  have HC := Lib.hid hc; have HOK := Lib.hid hok; have HLEN := Lib.hid hl; have HCAP := Lib.hid hcap
  have HCL := Lib.hid (fun v g h w' hg hh => clash_any z v g h w' hd hg hh)
  have HJ0 := Lib.hid h0
  clear hSt hJ hJx hY hc hok hl hcap hd h0
  obtain ⟨zi, zx, zy, zf, zt, zl, zh, dr⟩ := z
  simp only at HCL ⊢
  refine callsIn_of_wp Try.func98 rfl trivial ?_ rfl
  simp only [Try.ntmps98, List.size_toArray, List.length_cons, List.length_nil, Nat.reduceAdd, Nat.reduceSub, Array.replicate_succ, Array.replicate_zero, List.push_toArray, List.append_toArray, List.nil_append, List.cons_append]
  have d8 := cellH HSt.out.d 8
  simp only [List.getElem?_toArray, List.getElem?_cons_zero, List.getElem?_cons_succ] at d8
  gi_wp2
  clear d8
  gi_loopw [10] (fun i wr => ∃ (k : Nat) (pre : List Pi2), k ≤ l.length ∧ i = .int .i64 k ∧ Hid (pre ++ clL dr (l.drop k) = clL dr l) ∧ Hid (J pre wr) ∧ Hid (StC Dp ⟨zi, zx, zy, zf, zt, zl, zh, dr⟩ b off cap l C wr) ∧ Hid (W.heap.size ≤ wr.heap.size)) (fun i _ => l.length - (intOf i).toNat)
  case atStart => exact ⟨0, [], Nat.zero_le _, rfl, Lib.hid rfl, HJ0, HSt, Lib.hid (Nat.le_refl _)⟩
  case round =>
    obtain ⟨k, pre, hk, rfl, hP, hJp, hS, hZ⟩ := hrel
    by_cases hkl : k < l.length
    · obtain ⟨e0, e1, e2, e3, e4, e5, e6, e7, e8, e9⟩ := HC.out.at hS.out.r hkl
      have hki : (k : Int) < l.length := by omega
      have hk0 : (0 : Int) ≤ k := by omega
      have hlen := HLEN.out
      have hcap := HCAP.out
      have HKL := Lib.hid hkl
      have HDR := Lib.hid (clL_drop (dr := dr) hkl)
      have HAOK := Lib.hid (HOK.out (l.getD k .nil) (by rw [List.getD_eq_getElem?_getD, List.getElem?_eq_getElem hkl]; exact List.getElem_mem _))
      obtain ⟨X, hX⟩ : ∃ X, l.getD k .nil = X := ⟨_, rfl⟩
      rw [hX] at e0 e1 e2 e3 e4 e5 e6 e7 e8 e9 HDR HAOK
      clear hX
      obtain ⟨g0, g1, g2, g3, g4, g5, g6, g7, g8, g9⟩ := X
      simp only at e0 e1 e2 e3 e4 e5 e6 e7 e8 e9 HDR
      have hB1 : Below wr.heap.size wr (wr.alloc (.cells #[.int .i64 g0, .int .i64 g1, .int .i64 g2, .int .i64 g3, .int .i64 g4, .int .i64 g5, .int .i64 g6, .int .i64 g7, .int .i64 g8, .bool g9] 125)) := (Below.refl _ wr).alloc (Nat.le_refl _) _
      have HJ1 := Lib.hid (HJ.out _ _ _ hJp.out (OwnTo.of_below hB1 hZ.out))
      have HS1 := Lib.hid (hS.out.below hB1)
      have HA1 : Hid ((wr.alloc (.cells #[.int .i64 g0, .int .i64 g1, .int .i64 g2, .int .i64 g3, .int .i64 g4, .int .i64 g5, .int .i64 g6, .int .i64 g7, .int .i64 g8, .bool g9] 125)).heap[wr.heap.size]? = some (.cells #[.int .i64 g0, .int .i64 g1, .int .i64 g2, .int .i64 g3, .int .i64 g4, .int .i64 g5, .int .i64 g6, .int .i64 g7, .int .i64 g8, .bool g9] 125 (0, 0))) := Lib.hid (heap_alloc_new _ _)
      have HZ1 : Hid (W.heap.size ≤ (wr.alloc (.cells #[.int .i64 g0, .int .i64 g1, .int .i64 g2, .int .i64 g3, .int .i64 g4, .int .i64 g5, .int .i64 g6, .int .i64 g7, .int .i64 g8, .bool g9] 125)).heap.size) := Lib.hid (Nat.le_trans hZ.out hB1.size)
      obtain ⟨ab, hab⟩ : ∃ x, wr.heap.size = x := ⟨_, rfl⟩
      rw [hab] at HA1
      obtain ⟨w1, hw1⟩ : ∃ X, wr.alloc (.cells #[.int .i64 g0, .int .i64 g1, .int .i64 g2, .int .i64 g3, .int .i64 g4, .int .i64 g5, .int .i64 g6, .int .i64 g7, .int .i64 g8, .bool g9] 125) = X := ⟨_, rfl⟩
      rw [hw1] at HJ1 HS1 HA1 HZ1
      have HW1 := Lib.hid hw1
      clear hB1 hw1
      have a0 := cellH HA1.out 0
      have a1 := cellH HA1.out 1
      have a2 := cellH HA1.out 2
      have a3 := cellH HA1.out 3
      have a4 := cellH HA1.out 4
      have a5 := cellH HA1.out 5
      have a6 := cellH HA1.out 6
      have a7 := cellH HA1.out 7
      have a8 := cellH HA1.out 8
      have a9 := cellH HA1.out 9
      simp only [List.getElem?_toArray, List.getElem?_cons_zero, List.getElem?_cons_succ] at a0 a1 a2 a3 a4 a5 a6 a7 a8 a9
      have d8 := cellH HS1.out.d 8
      simp only [List.getElem?_toArray, List.getElem?_cons_zero, List.getElem?_cons_succ] at d8
      cases g9
      · rw [← HW1.out] at a9 d8
        clear a0 a1 a2 a3 a4 a5 a6 a7 a8
        have HP1 : Hid (pre ++ (clT dr ⟨g0, g1, g2, g3, g4, g5, g6, g7, g8, false⟩ (l.drop (k + 1)) ++ clL dr (l.drop (k + 1))) = clL dr l) := Lib.hid (by
          have h := HDR.out
          simp only [Bool.false_eq_true, if_false, List.nil_append] at h
          rw [← h]; exact hP.out)
        clear HDR hP hJp hS
        gi_wp2
        refine ⟨(fun f h => by cases h), ?_⟩
        gi_wp2
        · rw [HW1.out]
          clear HW1 a9 d8 e0 e1 e2 e3 e4 e5 e6 e7 e8 e9
          subst h
          gi_loopw [35] (fun i wr => i = .int .i64 (0 : Nat) ∧ Hid (pre ++ clL dr (l.drop (k + 1)) = clL dr l) ∧ Hid (J (pre) wr) ∧ Hid (StC Dp ⟨zi, zx, zy, zf, zt, zl, zh, dr⟩ b off (k + 1) l C wr) ∧ Hid (W.heap.size ≤ wr.heap.size)) (fun i _ => 0)
          case atStart =>
            refine ⟨rfl, Lib.hid ?_, HJ1, HS1, HZ1⟩
            have h := HP1.out
            rw [List.drop_eq_nil_of_le (by omega)] at h
            rw [List.drop_eq_nil_of_le (by omega)]
            simpa [clT, clL] using h
          case round =>
            obtain ⟨rfl, hQ, hJq, hSq, hZq⟩ := hrel
            have hjn : l.length - (k + 1) = 0 := by omega
            have hkl : k < l.length := by omega
            have ek : IntKind.i64.wrap ((k : Int) + 1) = (k : Int) + 1 := IntWalk.i64_in _ (by omega)
            gi_wp2
            go_roundw
            case rel => exact ⟨k + 1, pre, by omega, rfl, hQ, hJq, hSq, hZq⟩
            case measure => simp [intOf]; omega
        · rw [HW1.out]
          clear HW1 a9 d8 e0 e1 e2 e3 e4 e5 e6 e7 e8 e9
          gi_loopw [35] (fun i wr => ∃ (j : Nat) (qre : List Pi2), k + 1 + j ≤ l.length ∧ i = .int .i64 j ∧ Hid (qre ++ (clT dr ⟨g0, g1, g2, g3, g4, g5, g6, g7, g8, false⟩ (l.drop (k + 1 + j)) ++ clL dr (l.drop (k + 1))) = clL dr l) ∧ Hid (J qre wr) ∧ Hid (StC Dp ⟨zi, zx, zy, zf, zt, zl, zh, dr⟩ b off cap l C wr) ∧ Hid (W.heap.size ≤ wr.heap.size) ∧ Hid (wr.heap[ab]? = some (.cells #[.int .i64 g0, .int .i64 g1, .int .i64 g2, .int .i64 g3, .int .i64 g4, .int .i64 g5, .int .i64 g6, .int .i64 g7, .int .i64 g8, .bool false] 125 (0, 0)))) (fun i _ => l.length - (intOf i).toNat)
          case atStart => exact ⟨0, pre, by omega, rfl, HP1, HJ1, HS1, HZ1, HA1⟩
          case round =>
            obtain ⟨j, qre, hj, rfl, hQ, hJq, hSq, hZq, hAq⟩ := hrel
            by_cases hjl : k + 1 + j < l.length
            · obtain ⟨b0, b1, b2, b3, b4, b5, b6, b7, b8, b9⟩ := HC.out.at hSq.out.r hjl
              have hji : (j : Int) < (l.length - (k + 1) : Nat) := by omega
              have hj0 : (0 : Int) ≤ j := by omega
              have hjn : j < l.length - (k + 1) := by omega
              have ej : IntKind.i64.wrap ((j : Int) + 1) = (j : Int) + 1 := IntWalk.i64_in _ (by omega)
              have HBR := Lib.hid (clT_drop (dr := dr) (a := ⟨g0, g1, g2, g3, g4, g5, g6, g7, g8, false⟩) hjl)
              have HBOK := Lib.hid (HOK.out (l.getD (k + 1 + j) .nil) (by rw [List.getD_eq_getElem?_getD, List.getElem?_eq_getElem hjl]; exact List.getElem_mem _))
              have hoff : off + (k + 1) * 10 + j * 10 = off + (k + 1 + j) * 10 := by omega
              rw [← hoff] at b0 b1 b2 b3 b4 b5 b6 b7 b8 b9
              clear hoff
              obtain ⟨X, hX⟩ : ∃ X, l.getD (k + 1 + j) .nil = X := ⟨_, rfl⟩
              rw [hX] at b0 b1 b2 b3 b4 b5 b6 b7 b8 b9 HBR HBOK
              clear hX
              obtain ⟨p0, p1, p2, p3, p4, p5, p6, p7, p8, p9⟩ := X
              simp only at b0 b1 b2 b3 b4 b5 b6 b7 b8 b9 HBR
              have hB2 : Below wr.heap.size wr (wr.alloc (.cells #[.int .i64 p0, .int .i64 p1, .int .i64 p2, .int .i64 p3, .int .i64 p4, .int .i64 p5, .int .i64 p6, .int .i64 p7, .int .i64 p8, .bool p9] 125)) := (Below.refl _ wr).alloc (Nat.le_refl _) _
              have HJ2 := Lib.hid (HJ.out _ _ _ hJq.out (OwnTo.of_below hB2 hZq.out))
              have HS2 := Lib.hid (hSq.out.below hB2)
              have HB2 : Hid ((wr.alloc (.cells #[.int .i64 p0, .int .i64 p1, .int .i64 p2, .int .i64 p3, .int .i64 p4, .int .i64 p5, .int .i64 p6, .int .i64 p7, .int .i64 p8, .bool p9] 125)).heap[wr.heap.size]? = some (.cells #[.int .i64 p0, .int .i64 p1, .int .i64 p2, .int .i64 p3, .int .i64 p4, .int .i64 p5, .int .i64 p6, .int .i64 p7, .int .i64 p8, .bool p9] 125 (0, 0))) := Lib.hid (heap_alloc_new _ _)
              have HZ2 : Hid (W.heap.size ≤ (wr.alloc (.cells #[.int .i64 p0, .int .i64 p1, .int .i64 p2, .int .i64 p3, .int .i64 p4, .int .i64 p5, .int .i64 p6, .int .i64 p7, .int .i64 p8, .bool p9] 125)).heap.size) := Lib.hid (Nat.le_trans hZq.out hB2.size)
              have HA2 := Lib.hid ((KpP.of_below (p := pK) hB2).cells _ _ _ _ hAq.out (.inr rfl) |>.trans hAq.out)
              clear hB2 hJq hSq hZq hAq
              obtain ⟨bb, hbb⟩ : ∃ x, wr.heap.size = x := ⟨_, rfl⟩
              rw [hbb] at HB2
              obtain ⟨w2, hw2⟩ : ∃ X, wr.alloc (.cells #[.int .i64 p0, .int .i64 p1, .int .i64 p2, .int .i64 p3, .int .i64 p4, .int .i64 p5, .int .i64 p6, .int .i64 p7, .int .i64 p8, .bool p9] 125) = X := ⟨_, rfl⟩
              rw [hw2] at HJ2 HS2 HB2 HA2 HZ2
              have HCC : Hid (∀ v, Calls Try.prog 99 #[dlV ⟨zi, zx, zy, zf, zt, zl, zh, dr⟩ v, Th.val ⟨g0, g1, g2, g3, g4, g5, g6, g7, g8, false⟩, Th.val ⟨p0, p1, p2, p3, p4, p5, p6, p7, p8, p9⟩] w2 fun e w3 => e = .returned (.bool (clB dr ⟨g0, g1, g2, g3, g4, g5, g6, g7, g8, false⟩ ⟨p0, p1, p2, p3, p4, p5, p6, p7, p8, p9⟩)) ∧ Below w2.heap.size w2 w3) := Lib.hid fun v => HCL.out v _ _ w2 HAOK.out HBOK.out
              have a0 := cellH HA2.out 0
              have a1 := cellH HA2.out 1
              have a2 := cellH HA2.out 2
              have a3 := cellH HA2.out 3
              have a4 := cellH HA2.out 4
              have a5 := cellH HA2.out 5
              have a6 := cellH HA2.out 6
              have a7 := cellH HA2.out 7
              have a8 := cellH HA2.out 8
              have a9 := cellH HA2.out 9
              have q0 := cellH HB2.out 0
              have q1 := cellH HB2.out 1
              have q2 := cellH HB2.out 2
              have q3 := cellH HB2.out 3
              have q4 := cellH HB2.out 4
              have q5 := cellH HB2.out 5
              have q6 := cellH HB2.out 6
              have q7 := cellH HB2.out 7
              have q8 := cellH HB2.out 8
              have q9 := cellH HB2.out 9
              have d0 := cellH HS2.out.d 0
              have d1 := cellH HS2.out.d 1
              have d2 := cellH HS2.out.d 2
              have d3 := cellH HS2.out.d 3
              have d4 := cellH HS2.out.d 4
              have d5 := cellH HS2.out.d 5
              have d6 := cellH HS2.out.d 6
              have d7 := cellH HS2.out.d 7
              have d8 := cellH HS2.out.d 8
              simp only [List.getElem?_toArray, List.getElem?_cons_zero, List.getElem?_cons_succ] at a0 q0 a1 q1 a2 q2 a3 q3 a4 q4 a5 q5 a6 q6 a7 q7 a8 q8 a9 q9 d0 d1 d2 d3 d4 d5 d6 d7 d8
              obtain ⟨cl, hcl⟩ : ∃ c, clB dr ⟨g0, g1, g2, g3, g4, g5, g6, g7, g8, false⟩ ⟨p0, p1, p2, p3, p4, p5, p6, p7, p8, p9⟩ = c := ⟨_, rfl⟩
              rw [hcl] at HBR HCC
              clear hcl
              have HW2 := Lib.hid hw2
              gi_wp2
              refine ⟨trivial, (fun h => by cases h), (callsIn_wide.2 (HCC.out _)).mono ?_⟩
              rintro e3 w3 ⟨rfl, hb3⟩
              have HJ3 := Lib.hid (HJ.out _ _ _ HJ2.out (OwnTo.of_below hb3 HZ2.out))
              have HS3 := Lib.hid (HS2.out.below hb3)
              have HZ3 := Lib.hid (Nat.le_trans HZ2.out hb3.size)
              have HA3 := Lib.hid (((KpP.of_below (p := pK) hb3).cells _ _ _ _ HA2.out (.inr rfl)).trans HA2.out)
              have x0 := cellH HA3.out 0
              have y0 := cellH (((KpP.of_below (p := pK) hb3).cells _ _ _ _ HB2.out (.inr rfl)).trans HB2.out) 0
              simp only [List.getElem?_toArray, List.getElem?_cons_zero, List.getElem?_cons_succ] at x0 y0
              clear hb3 HJ2 HS2 HZ2 HA2 HB2 HCC hw2 a0 a1 a2 a3 a4 a5 a6 a7 a8 a9 q0 q1 q2 q3 q4 q5 q6 q7 q8 q9 d0 d1 d2 d3 d4 d5 d6 d7 d8
              cases cl
              · have HQ3 : Hid (qre ++ (clT dr ⟨g0, g1, g2, g3, g4, g5, g6, g7, g8, false⟩ (l.drop (k + 1 + (j + 1))) ++ clL dr (l.drop (k + 1))) = clL dr l) := Lib.hid (by
                  have h := HBR.out
                  simp only [Bool.false_eq_true, if_false, List.nil_append] at h
                  rw [← hQ.out, h]; rfl)
                gi_wp2
                refine ⟨(fun f h => by cases h), ?_⟩
                gi_wp2
                go_roundw
                case rel => exact ⟨j + 1, qre, by omega, rfl, HQ3, HJ3, HS3, HZ3, HA3⟩
                case measure => simp [intOf]; omega
              · have HQ3 : Hid ((qre ++ [(g0, p0)]) ++ (clT dr ⟨g0, g1, g2, g3, g4, g5, g6, g7, g8, false⟩ (l.drop (k + 1 + (j + 1))) ++ clL dr (l.drop (k + 1))) = clL dr l) := Lib.hid (by
                  have h := HBR.out
                  simp only [if_true] at h
                  rw [← hQ.out, h]; simp; rfl)
                have HPF : Hid (qre ++ [(g0, p0)] <+: clL dr l) := Lib.hid ⟨_, HQ3.out⟩
                obtain ⟨fn, tmps, assign, body, hy, hR⟩ := HY.out qre (g0, p0) w3 HJ3.out HPF.out
                change Sem.run _ (Instr.yield y #[.agg #[.int .i64 g0, .int .i64 p0]]) w3 = _ at hy
                have HR := Lib.hid hR
                clear hR
                gi_wp2
                refine ⟨(fun h => by cases h), ?_⟩
                refine HR.out.mono ?_
                rintro e4 W4 (⟨rfl, ⟨hJ4, hk4⟩, hkf4⟩ | ⟨rfl, hJx4, hkf4⟩)
                · have HJ4 := Lib.hid hJ4
                  have HS4 := Lib.hid (HS3.out.round hk4)
                  have HZ4 := Lib.hid (Nat.le_trans HZ3.out hk4.size)
                  have HA4 := Lib.hid ((hk4.cells _ _ _ _ HA3.out (.inr rfl)).trans HA3.out)
                  clear hJ4 hk4 hkf4
                  gi_wp2
                  go_roundw
                  case rel => exact ⟨j + 1, qre ++ [(g0, p0)], by omega, rfl, HQ3, HJ4, HS4, HZ4, HA4⟩
                  case measure => simp [intOf]; omega
                · gi_wp2
                  refine bodyPost_ret (results_none rfl _ _ _) rfl ?_
                  exact ⟨⟨_, rfl⟩, .inr ⟨_, HPF.out, hJx4⟩⟩
            · have hje : l.length = k + 1 + j := by omega
              have HE : Hid (qre ++ clL dr (l.drop (k + 1)) = clL dr l) := Lib.hid (by
                have h := hQ.out
                rw [← hje, List.drop_length] at h
                simpa [clT] using h)
              have hjn : ¬ ((j : Int) < (l.length - (k + 1) : Nat)) := by omega
              have hkl : k < l.length := by omega
              have ek : IntKind.i64.wrap ((k : Int) + 1) = (k : Int) + 1 := IntWalk.i64_in _ (by omega)
              clear hQ hje hj hAq
              gi_wp2
              go_roundw
              case rel => exact ⟨k + 1, qre, by omega, rfl, HE, hJq, hSq, hZq⟩
              case measure => simp [intOf]; omega
      · rw [← HW1.out] at a0 a1 a2 a3 a4 a5 a6 a7 a8 a9 d8
        have HP1 : Hid ((pre ++ [(g0, g0)]) ++ (clT dr ⟨g0, g1, g2, g3, g4, g5, g6, g7, g8, true⟩ (l.drop (k + 1)) ++ clL dr (l.drop (k + 1))) = clL dr l) := Lib.hid (by
          rw [← hP.out, HDR.out, if_pos rfl, List.append_assoc])
        have HPF1 : Hid (pre ++ [(g0, g0)] <+: clL dr l) := Lib.hid ⟨_, HP1.out⟩
        clear HDR hP hJp hS
        obtain ⟨fn, tmps, assign, body, hy, hR⟩ := HY.out pre (g0, g0) w1 HJ1.out HPF1.out
        change Sem.run _ (Instr.yield y #[.agg #[.int .i64 g0, .int .i64 g0]]) w1 = _ at hy
        rw [← HW1.out] at hy
        have HR := Lib.hid hR
        clear hR
        gi_wp2
        refine ⟨(fun h => by cases h), ?_⟩
        rw [HW1.out]
        refine HR.out.mono ?_
        have HS0 := HS1
        have HZ0 := HZ1
        have HA0 := HA1
        clear HJ1 HS1 HZ1 HA1
        rintro e4 W4 (⟨rfl, ⟨hJ4, hk4⟩, hkf4⟩ | ⟨rfl, hJx4, hkf4⟩)
        · have HJ1 := Lib.hid hJ4
          have HS1 := Lib.hid (HS0.out.round hk4)
          have HZ1 := Lib.hid (Nat.le_trans HZ0.out hk4.size)
          have HA1 := Lib.hid ((hk4.cells _ _ _ _ HA0.out (.inr rfl)).trans HA0.out)
          have d8 := cellH HS1.out.d 8
          simp only [List.getElem?_toArray, List.getElem?_cons_zero, List.getElem?_cons_succ] at d8
          clear hJ4 hk4 hkf4 HS0 HZ0 HA0 a0 a1 a2 a3 a4 a5 a6 a7 a8 a9 e0 e1 e2 e3 e4 e5 e6 e7 e8 e9 hy
          gi_wp2
          · clear d8
            subst h
            gi_loopw [35] (fun i wr => i = .int .i64 (0 : Nat) ∧ Hid ((pre ++ [(g0, g0)]) ++ clL dr (l.drop (k + 1)) = clL dr l) ∧ Hid (J ((pre ++ [(g0, g0)])) wr) ∧ Hid (StC Dp ⟨zi, zx, zy, zf, zt, zl, zh, dr⟩ b off (k + 1) l C wr) ∧ Hid (W.heap.size ≤ wr.heap.size)) (fun i _ => 0)
            case atStart =>
              refine ⟨rfl, Lib.hid ?_, HJ1, HS1, HZ1⟩
              have h := HP1.out
              rw [List.drop_eq_nil_of_le (by omega)] at h
              rw [List.drop_eq_nil_of_le (by omega)]
              simpa [clT, clL] using h
            case round =>
              obtain ⟨rfl, hQ, hJq, hSq, hZq⟩ := hrel
              have hjn : l.length - (k + 1) = 0 := by omega
              have hkl : k < l.length := by omega
              have ek : IntKind.i64.wrap ((k : Int) + 1) = (k : Int) + 1 := IntWalk.i64_in _ (by omega)
              gi_wp2
              go_roundw
              case rel => exact ⟨k + 1, (pre ++ [(g0, g0)]), by omega, rfl, hQ, hJq, hSq, hZq⟩
              case measure => simp [intOf]; omega
          · clear d8
            gi_loopw [35] (fun i wr => ∃ (j : Nat) (qre : List Pi2), k + 1 + j ≤ l.length ∧ i = .int .i64 j ∧ Hid (qre ++ (clT dr ⟨g0, g1, g2, g3, g4, g5, g6, g7, g8, true⟩ (l.drop (k + 1 + j)) ++ clL dr (l.drop (k + 1))) = clL dr l) ∧ Hid (J qre wr) ∧ Hid (StC Dp ⟨zi, zx, zy, zf, zt, zl, zh, dr⟩ b off cap l C wr) ∧ Hid (W.heap.size ≤ wr.heap.size) ∧ Hid (wr.heap[ab]? = some (.cells #[.int .i64 g0, .int .i64 g1, .int .i64 g2, .int .i64 g3, .int .i64 g4, .int .i64 g5, .int .i64 g6, .int .i64 g7, .int .i64 g8, .bool true] 125 (0, 0)))) (fun i _ => l.length - (intOf i).toNat)
            case atStart => exact ⟨0, (pre ++ [(g0, g0)]), by omega, rfl, HP1, HJ1, HS1, HZ1, HA1⟩
            case round =>
              obtain ⟨j, qre, hj, rfl, hQ, hJq, hSq, hZq, hAq⟩ := hrel
              by_cases hjl : k + 1 + j < l.length
              · obtain ⟨b0, b1, b2, b3, b4, b5, b6, b7, b8, b9⟩ := HC.out.at hSq.out.r hjl
                have hji : (j : Int) < (l.length - (k + 1) : Nat) := by omega
                have hj0 : (0 : Int) ≤ j := by omega
                have hjn : j < l.length - (k + 1) := by omega
                have ej : IntKind.i64.wrap ((j : Int) + 1) = (j : Int) + 1 := IntWalk.i64_in _ (by omega)
                have HBR := Lib.hid (clT_drop (dr := dr) (a := ⟨g0, g1, g2, g3, g4, g5, g6, g7, g8, true⟩) hjl)
                have HBOK := Lib.hid (HOK.out (l.getD (k + 1 + j) .nil) (by rw [List.getD_eq_getElem?_getD, List.getElem?_eq_getElem hjl]; exact List.getElem_mem _))
                have hoff : off + (k + 1) * 10 + j * 10 = off + (k + 1 + j) * 10 := by omega
                rw [← hoff] at b0 b1 b2 b3 b4 b5 b6 b7 b8 b9
                clear hoff
                obtain ⟨X, hX⟩ : ∃ X, l.getD (k + 1 + j) .nil = X := ⟨_, rfl⟩
                rw [hX] at b0 b1 b2 b3 b4 b5 b6 b7 b8 b9 HBR HBOK
                clear hX
                obtain ⟨p0, p1, p2, p3, p4, p5, p6, p7, p8, p9⟩ := X
                simp only at b0 b1 b2 b3 b4 b5 b6 b7 b8 b9 HBR
                have hB2 : Below wr.heap.size wr (wr.alloc (.cells #[.int .i64 p0, .int .i64 p1, .int .i64 p2, .int .i64 p3, .int .i64 p4, .int .i64 p5, .int .i64 p6, .int .i64 p7, .int .i64 p8, .bool p9] 125)) := (Below.refl _ wr).alloc (Nat.le_refl _) _
                have HJ2 := Lib.hid (HJ.out _ _ _ hJq.out (OwnTo.of_below hB2 hZq.out))
                have HS2 := Lib.hid (hSq.out.below hB2)
                have HB2 : Hid ((wr.alloc (.cells #[.int .i64 p0, .int .i64 p1, .int .i64 p2, .int .i64 p3, .int .i64 p4, .int .i64 p5, .int .i64 p6, .int .i64 p7, .int .i64 p8, .bool p9] 125)).heap[wr.heap.size]? = some (.cells #[.int .i64 p0, .int .i64 p1, .int .i64 p2, .int .i64 p3, .int .i64 p4, .int .i64 p5, .int .i64 p6, .int .i64 p7, .int .i64 p8, .bool p9] 125 (0, 0))) := Lib.hid (heap_alloc_new _ _)
                have HZ2 : Hid (W.heap.size ≤ (wr.alloc (.cells #[.int .i64 p0, .int .i64 p1, .int .i64 p2, .int .i64 p3, .int .i64 p4, .int .i64 p5, .int .i64 p6, .int .i64 p7, .int .i64 p8, .bool p9] 125)).heap.size) := Lib.hid (Nat.le_trans hZq.out hB2.size)
                have HA2 := Lib.hid ((KpP.of_below (p := pK) hB2).cells _ _ _ _ hAq.out (.inr rfl) |>.trans hAq.out)
                clear hB2 hJq hSq hZq hAq
                obtain ⟨bb, hbb⟩ : ∃ x, wr.heap.size = x := ⟨_, rfl⟩
                rw [hbb] at HB2
                obtain ⟨w2, hw2⟩ : ∃ X, wr.alloc (.cells #[.int .i64 p0, .int .i64 p1, .int .i64 p2, .int .i64 p3, .int .i64 p4, .int .i64 p5, .int .i64 p6, .int .i64 p7, .int .i64 p8, .bool p9] 125) = X := ⟨_, rfl⟩
                rw [hw2] at HJ2 HS2 HB2 HA2 HZ2
                have HCC : Hid (∀ v, Calls Try.prog 99 #[dlV ⟨zi, zx, zy, zf, zt, zl, zh, dr⟩ v, Th.val ⟨g0, g1, g2, g3, g4, g5, g6, g7, g8, true⟩, Th.val ⟨p0, p1, p2, p3, p4, p5, p6, p7, p8, p9⟩] w2 fun e w3 => e = .returned (.bool (clB dr ⟨g0, g1, g2, g3, g4, g5, g6, g7, g8, true⟩ ⟨p0, p1, p2, p3, p4, p5, p6, p7, p8, p9⟩)) ∧ Below w2.heap.size w2 w3) := Lib.hid fun v => HCL.out v _ _ w2 HAOK.out HBOK.out
                have a0 := cellH HA2.out 0
                have a1 := cellH HA2.out 1
                have a2 := cellH HA2.out 2
                have a3 := cellH HA2.out 3
                have a4 := cellH HA2.out 4
                have a5 := cellH HA2.out 5
                have a6 := cellH HA2.out 6
                have a7 := cellH HA2.out 7
                have a8 := cellH HA2.out 8
                have a9 := cellH HA2.out 9
                have q0 := cellH HB2.out 0
                have q1 := cellH HB2.out 1
                have q2 := cellH HB2.out 2
                have q3 := cellH HB2.out 3
                have q4 := cellH HB2.out 4
                have q5 := cellH HB2.out 5
                have q6 := cellH HB2.out 6
                have q7 := cellH HB2.out 7
                have q8 := cellH HB2.out 8
                have q9 := cellH HB2.out 9
                have d0 := cellH HS2.out.d 0
                have d1 := cellH HS2.out.d 1
                have d2 := cellH HS2.out.d 2
                have d3 := cellH HS2.out.d 3
                have d4 := cellH HS2.out.d 4
                have d5 := cellH HS2.out.d 5
                have d6 := cellH HS2.out.d 6
                have d7 := cellH HS2.out.d 7
                have d8 := cellH HS2.out.d 8
                simp only [List.getElem?_toArray, List.getElem?_cons_zero, List.getElem?_cons_succ] at a0 q0 a1 q1 a2 q2 a3 q3 a4 q4 a5 q5 a6 q6 a7 q7 a8 q8 a9 q9 d0 d1 d2 d3 d4 d5 d6 d7 d8
                obtain ⟨cl, hcl⟩ : ∃ c, clB dr ⟨g0, g1, g2, g3, g4, g5, g6, g7, g8, true⟩ ⟨p0, p1, p2, p3, p4, p5, p6, p7, p8, p9⟩ = c := ⟨_, rfl⟩
                rw [hcl] at HBR HCC
                clear hcl
                have HW2 := Lib.hid hw2
                gi_wp2
                refine ⟨trivial, (fun h => by cases h), (callsIn_wide.2 (HCC.out _)).mono ?_⟩
                rintro e3 w3 ⟨rfl, hb3⟩
                have HJ3 := Lib.hid (HJ.out _ _ _ HJ2.out (OwnTo.of_below hb3 HZ2.out))
                have HS3 := Lib.hid (HS2.out.below hb3)
                have HZ3 := Lib.hid (Nat.le_trans HZ2.out hb3.size)
                have HA3 := Lib.hid (((KpP.of_below (p := pK) hb3).cells _ _ _ _ HA2.out (.inr rfl)).trans HA2.out)
                have x0 := cellH HA3.out 0
                have y0 := cellH (((KpP.of_below (p := pK) hb3).cells _ _ _ _ HB2.out (.inr rfl)).trans HB2.out) 0
                simp only [List.getElem?_toArray, List.getElem?_cons_zero, List.getElem?_cons_succ] at x0 y0
                clear hb3 HJ2 HS2 HZ2 HA2 HB2 HCC hw2 a0 a1 a2 a3 a4 a5 a6 a7 a8 a9 q0 q1 q2 q3 q4 q5 q6 q7 q8 q9 d0 d1 d2 d3 d4 d5 d6 d7 d8
                cases cl
                · have HQ3 : Hid (qre ++ (clT dr ⟨g0, g1, g2, g3, g4, g5, g6, g7, g8, true⟩ (l.drop (k + 1 + (j + 1))) ++ clL dr (l.drop (k + 1))) = clL dr l) := Lib.hid (by
                    have h := HBR.out
                    simp only [Bool.false_eq_true, if_false, List.nil_append] at h
                    rw [← hQ.out, h]; rfl)
                  gi_wp2
                  refine ⟨(fun f h => by cases h), ?_⟩
                  gi_wp2
                  go_roundw
                  case rel => exact ⟨j + 1, qre, by omega, rfl, HQ3, HJ3, HS3, HZ3, HA3⟩
                  case measure => simp [intOf]; omega
                · have HQ3 : Hid ((qre ++ [(g0, p0)]) ++ (clT dr ⟨g0, g1, g2, g3, g4, g5, g6, g7, g8, true⟩ (l.drop (k + 1 + (j + 1))) ++ clL dr (l.drop (k + 1))) = clL dr l) := Lib.hid (by
                    have h := HBR.out
                    simp only [if_true] at h
                    rw [← hQ.out, h]; simp; rfl)
                  have HPF : Hid (qre ++ [(g0, p0)] <+: clL dr l) := Lib.hid ⟨_, HQ3.out⟩
                  obtain ⟨fn, tmps, assign, body, hy, hR⟩ := HY.out qre (g0, p0) w3 HJ3.out HPF.out
                  change Sem.run _ (Instr.yield y #[.agg #[.int .i64 g0, .int .i64 p0]]) w3 = _ at hy
                  have HR := Lib.hid hR
                  clear hR
                  gi_wp2
                  refine ⟨(fun h => by cases h), ?_⟩
                  refine HR.out.mono ?_
                  rintro e4 W4 (⟨rfl, ⟨hJ4, hk4⟩, hkf4⟩ | ⟨rfl, hJx4, hkf4⟩)
                  · have HJ4 := Lib.hid hJ4
                    have HS4 := Lib.hid (HS3.out.round hk4)
                    have HZ4 := Lib.hid (Nat.le_trans HZ3.out hk4.size)
                    have HA4 := Lib.hid ((hk4.cells _ _ _ _ HA3.out (.inr rfl)).trans HA3.out)
                    clear hJ4 hk4 hkf4
                    gi_wp2
                    go_roundw
                    case rel => exact ⟨j + 1, qre ++ [(g0, p0)], by omega, rfl, HQ3, HJ4, HS4, HZ4, HA4⟩
                    case measure => simp [intOf]; omega
                  · gi_wp2
                    refine bodyPost_ret (results_none rfl _ _ _) rfl ?_
                    exact ⟨⟨_, rfl⟩, .inr ⟨_, HPF.out, hJx4⟩⟩
              · have hje : l.length = k + 1 + j := by omega
                have HE : Hid (qre ++ clL dr (l.drop (k + 1)) = clL dr l) := Lib.hid (by
                  have h := hQ.out
                  rw [← hje, List.drop_length] at h
                  simpa [clT] using h)
                have hjn : ¬ ((j : Int) < (l.length - (k + 1) : Nat)) := by omega
                have hkl : k < l.length := by omega
                have ek : IntKind.i64.wrap ((k : Int) + 1) = (k : Int) + 1 := IntWalk.i64_in _ (by omega)
                clear hQ hje hj hAq
                gi_wp2
                go_roundw
                case rel => exact ⟨k + 1, qre, by omega, rfl, HE, hJq, hSq, hZq⟩
                case measure => simp [intOf]; omega
        · gi_wp2
          refine bodyPost_ret (results_none rfl _ _ _) rfl ?_
          exact ⟨⟨_, rfl⟩, .inr ⟨_, HPF1.out, hJx4⟩⟩
    · obtain rfl : k = l.length := by omega
      have HJE : Hid (J (clL dr l) wr) := Lib.hid (by
        have h := hP.out
        rw [List.drop_length] at h
        have h2 : pre = clL dr l := by simpa [clL] using h
        rw [← h2]; exact hJp.out)
      clear hJp hP
      gi_wp2
      go_end0
      exact ⟨⟨_, rfl⟩, .inl HJE.out⟩
end Go.Proofs.Ytpaihnjgpookjaa
