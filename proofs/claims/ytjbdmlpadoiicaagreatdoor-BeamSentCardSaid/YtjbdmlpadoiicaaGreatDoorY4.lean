/- confusable of package beam. -/
import Derived.Test.YtjbdmlpadoiicaaGreatDoorY2
import Derived.Test.YtjbdmlpadoiicaaGreatDoorT0
import Derived.StillTailTactics
import Derived.Test.YtjbdmlpadoiicaaGreatDoorY0
set_option linter.unusedVariables false
set_option linter.unusedSimpArgs false
namespace Go.Proofs.YtjbdmlpadoiicaaGreatDoor
open Go.RowKit Go.Shelf

theorem turnB_step {P : Program} {ops : Array Oper} {md : Region.Mode} {n : Nat} {W0 : World} {Q : Act → Prop} {o : Oper} {rest : List Oper} {k : Nat} {a : Act} {v : Value} (hw : Region.wanted o (yielded ops a.tmps) = true)
    (h1 : ∀ w', Below W0.heap.size W0 w' → TurnUpon P (fun w'' => Below W0.heap.size W0 w'') v ((execOp a.eval o).run P w')) (h2 : wpTurn P ops md n (fun _ w' => Below W0.heap.size W0 w') Q rest (k + 1) (a.put o.dst v)) :
    wpTurn P ops md n (fun _ w' => Below W0.heap.size W0 w') Q (o :: rest) k a := ⟨v, .inl ⟨hw, fun _ w _ _ hC => h1 w hC⟩, h2⟩

/-- Eight numbers in a row. -/
def uA (f : Nat → Nat) : Array Value := #[.int .u64 (f 0), .int .u64 (f 1), .int .u64 (f 2), .int .u64 (f 3), .int .u64 (f 4), .int .u64 (f 5), .int .u64 (f 6), .int .u64 (f 7)]
theorem uA_at (f : Nat → Nat) (i : Nat) (hi : i < 8) : (uA f)[i]? = some (.int .u64 (f i)) := by
  rcases (by omega : i = 0 ∨ i = 1 ∨ i = 2 ∨ i = 3 ∨ i = 4 ∨ i = 5 ∨ i = 6 ∨ i = 7) with rfl | rfl | rfl | rfl | rfl | rfl | rfl | rfl <;> rfl
theorem uA_set (f : Nat → Nat) (i v : Nat) (hi : i < 8) : (uA f).setIfInBounds i (.int .u64 v) = uA (fun t => if t = i then v else f t) := by
  rcases (by omega : i = 0 ∨ i = 1 ∨ i = 2 ∨ i = 3 ∨ i = 4 ∨ i = 5 ∨ i = 6 ∨ i = 7) with rfl | rfl | rfl | rfl | rfl | rfl | rfl | rfl <;> rfl
theorem uA_congr {f g : Nat → Nat} (h : ∀ i, i < 8 → f i = g i) : uA f = uA g := by
  unfold uA
  rw [h 0 (by omega), h 1 (by omega), h 2 (by omega), h 3 (by omega), h 4 (by omega), h 5 (by omega), h 6 (by omega), h 7 (by omega)]

def resW (l : List (List UInt8)) (n t : Nat) : List (List UInt8) := resL (signalL (l.getD t [])) n
structure LSt (w wr : World) (l : List (List UInt8)) (n J : Nat) (f : Nat → Nat) : Prop where
  below : Below w.heap.size w wr
  big : w.heap.size + 3 ≤ wr.heap.size
  b4 : wr.heap[w.heap.size]? = some (.cells (uA fun _ => 0) 95 (0, 0))
  b6 : wr.heap[w.heap.size + 2]? = some (.cells (uA f) 95 (0, 0))
  b5 : ∃ A : Array Value, wr.heap[w.heap.size + 1]? = some (.cells A 144 (0, 0)) ∧ A.size = 8 ∧ ∀ t, t < J → ∃ r cap, A[t]? = some (.slice (some ⟨r, 0, none⟩) (resW l n t).length cap) ∧ w.heap.size + 3 ≤ r ∧ r < wr.heap.size ∧ (resW l n t).length ≤ cap ∧
    ∀ i, i < (resW l n t).length → wr.cell? ⟨r, i, none⟩ = some (.string (B ((resW l n t).getD i [])))
theorem LSt.keep {w wr w2 : World} {l : List (List UInt8)} {n J : Nat} {f : Nat → Nat} (h : LSt w wr l n J f) (hb : Below wr.heap.size wr w2) : LSt w w2 l n J f := by
  have hbg := h.big
  obtain ⟨A, h1, h2, h3⟩ := h.b5
  refine ⟨h.below.trans (hb.mono h.below.size), Nat.le_trans hbg hb.size, (hb.block _ (by omega)).trans h.b4, (hb.block _ (by omega)).trans h.b6, A, (hb.block _ (by omega)).trans h1, h2, fun t ht => ?_⟩
  obtain ⟨r, cap, g1, g2, g3, g4, g5⟩ := h3 t ht
  exact ⟨r, cap, g1, g2, Nat.lt_of_lt_of_le g3 hb.size, g4, fun i hi => (hb.cell (p := ⟨r, i, none⟩) g3).trans (g5 i hi)⟩
theorem LSt.mask {w wr : World} {l : List (List UInt8)} {n J : Nat} {f : Nat → Nat} (h : LSt w wr l n J f) (i v : Nat) (hi : i < 8) : LSt w (wr.setCell ⟨w.heap.size + 2, i, none⟩ (.int .u64 v)) l n J (fun t => if t = i then v else f t) := by
  have hbg := h.big
  obtain ⟨A, h1, h2, h3⟩ := h.b5
  refine ⟨h.below.setCell (p := ⟨w.heap.size + 2, i, none⟩) (by simp) _, by simpa using hbg, (Below.heap_setCell _ _ _ _ (by simp)).trans h.b4, ?_, A, (Below.heap_setCell _ _ _ _ (by simp)).trans h1, h2, fun t ht => ?_⟩
  · rw [← uA_set f i v hi]; exact heap_setCell_same h.b6 i _
  · obtain ⟨r, cap, g1, g2, g3, g4, g5⟩ := h3 t ht
    exact ⟨r, cap, g1, g2, by simpa using g3, g4, fun k hk => (World.cell?_of_block (w := wr) (a := ⟨r, k, none⟩) (Below.heap_setCell _ _ _ r (by simp; omega))).trans (g5 k hk)⟩
theorem LSt.list {w wr : World} {l : List (List UInt8)} {n J : Nat} {f : Nat → Nat} (h : LSt w wr l n J f) (hJ : J < 8) (r cap : Nat) (g2 : w.heap.size + 3 ≤ r) (g3 : r < wr.heap.size) (g4 : (resW l n J).length ≤ cap)
    (g5 : ∀ i, i < (resW l n J).length → wr.cell? ⟨r, i, none⟩ = some (.string (B ((resW l n J).getD i [])))) : LSt w (wr.setCell ⟨w.heap.size + 1, J, none⟩ (.slice (some ⟨r, 0, none⟩) (resW l n J).length cap)) l n (J + 1) f := by
  have hbg := h.big
  obtain ⟨A, h1, h2, h3⟩ := h.b5
  refine ⟨h.below.setCell (p := ⟨w.heap.size + 1, J, none⟩) (by simp) _, by simpa using hbg, (Below.heap_setCell _ _ _ _ (by simp)).trans h.b4, (Below.heap_setCell _ _ _ _ (by simp)).trans h.b6, _, heap_setCell_same h1 J _, by simpa using h2, fun t ht => ?_⟩
  by_cases e : t = J
  · subst e
    exact ⟨r, cap, by rw [Array.getElem?_setIfInBounds_self_of_lt (by omega)], g2, by simpa using g3, g4, fun k hk => (World.cell?_of_block (w := wr) (a := ⟨r, k, none⟩) (Below.heap_setCell _ _ _ r (by simp; omega))).trans (g5 k hk)⟩
  · obtain ⟨r, cap, g1, g2, g3, g4, g5⟩ := h3 t (by omega)
    exact ⟨r, cap, by rw [Array.getElem?_setIfInBounds_ne (by omega)]; exact g1, g2, by simpa using g3, g4, fun k hk => (World.cell?_of_block (w := wr) (a := ⟨r, k, none⟩) (Below.heap_setCell _ _ _ r (by simp; omega))).trans (g5 k hk)⟩
theorem res_base {w : World} {base r cap : Nat} {l : List (List UInt8)} (h : w.ownsRow base 9 1 (.slice (some ⟨r, 0, none⟩) l.length cap) l.length (l.map encStr)) : base ≤ r := by
  rcases h.2 with ⟨h0, _⟩ | ⟨g, cap', cur, hv, hg, _⟩
  · cases h0
  · cases hv; exact hg
theorem shareV_is (o : Option (List UInt8)) : ∃ x : ByteArray, shareV o = .tuple #[.string x, .bool o.isSome] := by
  cases o with
  | none => exact ⟨_, rfl⟩
  | some x => exact ⟨_, rfl⟩
theorem or_u64 (a b : Nat) (ha : a < 16) (hb : b < 16) : bits BinOp.or IntKind.u64 (a : Int) (b : Int) = ((a ||| b : Nat) : Int) := bits_or_u64_nat a b (by omega) (by omega)

theorem LSt.congr {w wr : World} {l : List (List UInt8)} {n J : Nat} {f g : Nat → Nat} (h : LSt w wr l n J f) (e : ∀ i, i < 8 → f i = g i) : LSt w wr l n J g :=
  ⟨h.below, h.big, h.b4, by rw [← uA_congr e]; exact h.b6, h.b5⟩
theorem maskN_step (c : Nat → Nat → Bool) {J i : Nat} (hi : i < J) : maskN c (J + 1) i = if c i J = true then maskN c J i ||| 2 ^ J else maskN c J i := by
  show (if i < J ∧ c i J = true then _ else _) = _
  by_cases h : c i J = true
  · rw [if_pos ⟨hi, h⟩, if_pos h]
  · rw [if_neg (fun k => h k.2), if_neg h]
theorem maskN_keep (c : Nat → Nat → Bool) {J i : Nat} (hi : J ≤ i) : maskN c (J + 1) i = maskN c J i := by
  show (if i < J ∧ c i J = true then _ else _) = _
  rw [if_neg (fun k => by omega)]
theorem LSt.at5 {w wr : World} {l : List (List UInt8)} {n J : Nat} {f : Nat → Nat} (h : LSt w wr l n J f) {t : Nat} (ht : t < J) : ∃ r cap, wr.cell? ⟨w.heap.size + 1, t, none⟩ = some (.slice (some ⟨r, 0, none⟩) (resW l n t).length cap) ∧ r < wr.heap.size ∧ (resW l n t).length ≤ cap ∧
    ∀ i, i < (resW l n t).length → wr.cell? ⟨r, i, none⟩ = some (.string (B ((resW l n t).getD i []))) := by
  obtain ⟨A, h1, h2, h3⟩ := h.b5
  obtain ⟨r, cap, g1, g2, g3, g4, g5⟩ := h3 t ht
  exact ⟨r, cap, (cell_of_heap h1 _).trans g1, g3, g4, g5⟩
theorem LSt.some5 {w wr : World} {l : List (List UInt8)} {n J : Nat} {f : Nat → Nat} (h : LSt w wr l n J f) {t : Nat} (ht : t < 8) : ∃ ov, wr.cell? ⟨w.heap.size + 1, t, none⟩ = some ov ∧ wr.frozen? ⟨w.heap.size + 1, t, none⟩ = false := by
  obtain ⟨A, h1, h2, h3⟩ := h.b5
  exact ⟨_, (cell_of_heap h1 _).trans (Array.getElem?_eq_getElem (by omega)), free_of_heap h1 _⟩
theorem LSt.at6 {w wr : World} {l : List (List UInt8)} {n J : Nat} {f : Nat → Nat} (h : LSt w wr l n J f) {t : Nat} (ht : t < 8) : wr.cell? ⟨w.heap.size + 2, t, none⟩ = some (.int .u64 (f t)) ∧ wr.frozen? ⟨w.heap.size + 2, t, none⟩ = false :=
  ⟨(cell_of_heap h.b6 _).trans (uA_at f t ht), free_of_heap h.b6 _⟩

set_option maxRecDepth 100000 in
set_option maxHeartbeats 2000000 in
theorem confusable_any (v : Value) (l : List (List UInt8)) (n : Nat) (w : World) (hv : SRow w v l) (hl : l.length ≤ 4) (hw : l.all wordB = true) (hn : n ≤ 2) (hE : Env w) :
    Calls Tryz.prog 52 #[v, .int .i64 n] w fun e w' => e = .returned (.agg (uA (maskN (bookC l n) l.length))) ∧ Below w.heap.size w w' := by
  obtain ⟨a, cap, rfl, hc⟩ := hv.form
  have HC := Lib.hid hc
  have HE := Lib.hid hE
  have HW : Hid (∀ k, k < l.length → wordB (l.getD k []) = true) := Lib.hid (fun k hk => List.all_eq_true.1 hw _ (getD_mem hk))
  clear hc hw hv hE
  go_enter Tryz.func52, Tryz.ntmps52
  go_wp2_with fail
  go_loopw [14] (fun i wr => ∃ J : Nat, J ≤ l.length ∧ i = .int .i64 J ∧ Hid (LSt w wr l n J (maskN (bookC l n) J))) (fun i _ => l.length - (intOf i).toNat)
  case atStart =>
    refine ⟨0, Nat.zero_le _, rfl, Lib.hid ⟨?_, by simp, ?_, ?_, ?_⟩⟩
    · exact (((Below.refl _ w).alloc (Nat.le_refl _) _).alloc (by simp) _).alloc (by simp; omega) _
    · exact (Below.heap_alloc _ _ _ (by simp; omega)).trans ((Below.heap_alloc _ _ _ (by simp)).trans (World.alloc_heap_new w _))
    · have := World.alloc_heap_new ((w.alloc (.cells (uA fun _ => 0) 95)).alloc (.cells #[.slice none 0 0, .slice none 0 0, .slice none 0 0, .slice none 0 0, .slice none 0 0, .slice none 0 0, .slice none 0 0, .slice none 0 0] 144)) (.cells (uA fun _ => 0) 95)
      simp only [World.size_alloc] at this
      exact this
    · refine ⟨#[.slice none 0 0, .slice none 0 0, .slice none 0 0, .slice none 0 0, .slice none 0 0, .slice none 0 0, .slice none 0 0, .slice none 0 0], ?_, rfl, fun t ht => by omega⟩
      have := World.alloc_heap_new (w.alloc (.cells (uA fun _ => 0) 95)) (.cells #[.slice none 0 0, .slice none 0 0, .slice none 0 0, .slice none 0 0, .slice none 0 0, .slice none 0 0, .slice none 0 0, .slice none 0 0] 144)
      simp only [World.size_alloc] at this
      exact (Below.heap_alloc _ _ _ (by simp)).trans this
  case round =>
    obtain ⟨J, hJ, rfl, hS⟩ := hrel
    by_cases hlt : J < l.length
    · obtain ⟨g, off, rfl, hg, c0⟩ := HC.out J hlt
      have hlti : (J : Int) < l.length := by omega
      have hJ0 : (0 : Int) ≤ J := by omega
      have hJ8 : (J : Int) < 8 := by omega
      obtain ⟨x, hx⟩ : ∃ x, l.getD J [] = x := ⟨_, rfl⟩
      have HWX : Hid (wordB x = true) := Lib.hid (by rw [← hx]; exact HW.out J hlt)
      have HRX : Hid (resW l n J = resL (signalL x) n) := Lib.hid (by unfold resW; rw [hx])
      rw [hx] at c0
      have c1 := (hS.out.below.cell (p := ⟨g, _, none⟩) hg).trans c0
      clear hx c0
      go_wp2_with fail
      refine (received_any x n _ HWX.out hn (HE.out.below hS.out.below)).mono ?_
      rintro e w2 ⟨r, cp, rfl, hrow, hb⟩
      obtain ⟨r1, r2, r3⟩ := res_rows hrow
      have r0 := res_base hrow
      have S2 := hS.out.keep hb
      have hbig := hS.out.big
      obtain ⟨ov, d1, f1⟩ := S2.some5 (t := J) (by omega)
      have S3 := Lib.hid (S2.list (by omega) r cp (by omega) r1 (by rw [HRX.out]; exact r2) (by rw [HRX.out]; exact r3))
      rw [HRX.out] at S3
      clear hrow hb r1 r2 r3 r0 S2 hbig
      go_wp2_with fail
      clear d1 f1 c1
      obtain ⟨W3, hW3⟩ : ∃ W3, w2.setCell ⟨w.heap.size + 1, J, none⟩ (.slice (some ⟨r, 0, none⟩) (resL (signalL x) n).length cp) = W3 := ⟨_, rfl⟩
      rw [hW3] at S3 ⊢
      clear hW3 hS
      go_loopw [25] (fun i ws => ∃ i' : Nat, i' ≤ J ∧ i = .int .i64 i' ∧ Hid (LSt w ws l n (J + 1) (fun t => if t < i' then maskN (bookC l n) (J + 1) t else maskN (bookC l n) J t))) (fun i _ => J - (intOf i).toNat)
      case atStart => exact ⟨0, Nat.zero_le _, rfl, Lib.hid (S3.out.congr (fun i _ => by rw [if_neg (by omega)]))⟩
      case round =>
        clear S3
        obtain ⟨i, hi, rfl, hI⟩ := hrel
        by_cases hij : i < J
        · have hij' : (i : Int) < J := by omega
          have hi0 : (0 : Int) ≤ i := by omega
          have hi8 : (i : Int) < 8 := by omega
          obtain ⟨ri, ci, ei, gi, li, ki⟩ := hI.out.at5 (t := i) (by omega)
          obtain ⟨rj, cj, ej, gj, lj, kj⟩ := hI.out.at5 (t := J) (by omega)
          obtain ⟨xs, hxs⟩ := shareV_is (confO (l.getD i []) (l.getD J []) n)
          obtain ⟨bb, hbb⟩ : ∃ bb, bookC l n i J = bb := ⟨_, rfl⟩
          rw [(bookC_at l n hij (by omega)).symm.trans hbb |> fun h => (show (confO (l.getD i []) (l.getD J []) n).isSome = bb from h)] at hxs
          have hsz : w.heap.size + 1 < wr.heap.size := by have := hI.out.big; omega
          have K0 : Hid (∀ W', Below wr.heap.size wr W' → W'.cell? ⟨w.heap.size + 1, i, none⟩ = some (.slice (some ⟨ri, 0, none⟩) (resW l n i).length ci) ∧ W'.cell? ⟨w.heap.size + 1, J, none⟩ = some (.slice (some ⟨rj, 0, none⟩) (resW l n J).length cj)) :=
            Lib.hid fun W' h => ⟨(h.cell (p := ⟨w.heap.size + 1, i, none⟩) hsz).trans ei, (h.cell (p := ⟨w.heap.size + 1, J, none⟩) hsz).trans ej⟩
          have CK : Hid (∀ W', Below wr.heap.size wr W' → Calls Tryz.prog 47 #[.slice (some ⟨ri, 0, none⟩) (resW l n i).length ci, .slice (some ⟨rj, 0, none⟩) (resW l n J).length cj] W' fun e w' => e = .returned (.tuple #[.string xs, .bool bb]) ∧ Below wr.heap.size wr w') :=
            Lib.hid fun W' h => (firstShared_any ri rj ci cj (resW l n i) (resW l n J) W' (tidy_strict _).1 (tidy_strict _).1 (Nat.lt_of_lt_of_le gi h.size) (Nat.lt_of_lt_of_le gj h.size) li lj (fun k hk => (h.cell (p := ⟨ri, k, none⟩) gi).trans (ki k hk)) (fun k hk => (h.cell (p := ⟨rj, k, none⟩) gj).trans (kj k hk))
              (res_le (HW.out i (by omega)) hn) (res_le (HW.out J hlt) hn)).mono fun e w' ⟨he, hb⟩ => ⟨by rw [he]; exact congrArg Ending.returned hxs, h.trans (hb.mono h.size)⟩
          clear ei gi li ki ej gj lj kj hxs hsz
          go_wp2_with fail
          refine wp_region_turn 11 (fun _ w' => Below wr.heap.size wr w') (by kernel_rfl) (by kernel_rfl) ((Below.refl _ _).drew) ?_
          simp only [List.take_succ_cons, List.take_zero, List.drop_succ_cons, List.drop_zero]
          (apply turnB_step (by rfl); (intro w' hw'; go_simp; first | exact ⟨hw', rfl⟩ | exact rfl))
          simp only [Act.put, List.setIfInBounds_toArray, List.set_cons_succ, List.set_cons_zero]
          (apply turnB_step (by rfl); (intro w' hw'; go_simp; first | exact ⟨hw', rfl⟩ | exact rfl))
          simp only [Act.put, List.setIfInBounds_toArray, List.set_cons_succ, List.set_cons_zero]
          (apply turnB_step (by rfl); (intro w' hw'; obtain ⟨q0, q1⟩ := K0.out w' hw'; go_simp; first | exact ⟨hw', rfl⟩ | exact rfl))
          simp only [Act.put, List.setIfInBounds_toArray, List.set_cons_succ, List.set_cons_zero]
          (apply turnB_step (by rfl); (intro w' hw'; go_simp; first | exact ⟨hw', rfl⟩ | exact rfl))
          simp only [Act.put, List.setIfInBounds_toArray, List.set_cons_succ, List.set_cons_zero]
          (apply turnB_step (by rfl); (intro w' hw'; go_simp; first | exact ⟨hw', rfl⟩ | exact rfl))
          simp only [Act.put, List.setIfInBounds_toArray, List.set_cons_succ, List.set_cons_zero]
          (apply turnB_step (by rfl); (intro w' hw'; obtain ⟨q0, q1⟩ := K0.out w' hw'; go_simp; first | exact ⟨hw', rfl⟩ | exact rfl))
          simp only [Act.put, List.setIfInBounds_toArray, List.set_cons_succ, List.set_cons_zero]
          (apply turnB_step (by rfl); (intro w' hw'; go_simp; exact CK.out w' hw'))
          simp only [Act.put, List.setIfInBounds_toArray, List.set_cons_succ, List.set_cons_zero]
          (apply turnB_step (by rfl); (intro w' hw'; go_simp; first | exact ⟨hw', rfl⟩ | exact rfl))
          simp only [Act.put, List.setIfInBounds_toArray, List.set_cons_succ, List.set_cons_zero]
          (apply turnB_step (by rfl); (intro w' hw'; go_simp; first | exact ⟨hw', rfl⟩ | exact rfl))
          simp only [Act.put, List.setIfInBounds_toArray, List.set_cons_succ, List.set_cons_zero]
          (apply turnB_step (by rfl); (intro w' hw'; go_simp; first | exact ⟨hw', rfl⟩ | exact rfl))
          simp only [Act.put, List.setIfInBounds_toArray, List.set_cons_succ, List.set_cons_zero]
          (apply turnB_step (by rfl); (intro w' hw'; go_simp; first | exact ⟨hw', rfl⟩ | exact rfl))
          simp only [Act.put, List.setIfInBounds_toArray, List.set_cons_succ, List.set_cons_zero]
          intro listed w4 _ hw4
          have S4 := Lib.hid (hI.out.keep hw4)
          clear hw4 K0 CK
          cases bb with
          | false =>
            go_wp2_with fail
            go_roundw
            case rel => exact ⟨i + 1, by omega, by go_num, Lib.hid (S4.out.congr (fun t _ => by
              by_cases h1 : t < i
              · rw [if_pos h1, if_pos (by omega)]
              · rw [if_neg h1]
                by_cases h2 : t = i
                · subst h2; rw [if_pos (by omega), maskN_step _ hij, hbb]; rfl
                · rw [if_neg (by omega)]))⟩
            case measure => simp [intOf]; omega
          | true =>
            obtain ⟨c6, f6⟩ := S4.out.at6 (t := i) (by omega)
            rw [if_neg (by omega)] at c6
            have hml := maskN_lt (bookC l n) J i
            obtain ⟨m, hm⟩ : ∃ m, maskN (bookC l n) J i = m := ⟨_, rfl⟩
            rw [hm] at c6 hml
            have HM := Lib.hid hm
            have hp : (2 : Nat) ^ J ≤ 8 := by rcases (by omega : J = 0 ∨ J = 1 ∨ J = 2 ∨ J = 3) with rfl | rfl | rfl | rfl <;> decide
            obtain ⟨p, ep⟩ : ∃ p, (2 : Nat) ^ J = p := ⟨_, rfl⟩
            have hor := or_u64 m p (by omega) (by omega)
            have HBB := Lib.hid hbb
            clear hm hbb
            have c6' : w4.cell? ⟨w.heap.size + 1 + 1, i, none⟩ = some (.int .u64 m) := c6
            have f6' : w4.frozen? ⟨w.heap.size + 1 + 1, i, none⟩ = false := f6
            have hsh : IntKind.u64.wrap (2 ^ J) = (p : Int) := by
              rw [← ep]
              rcases (by omega : J = 0 ∨ J = 1 ∨ J = 2 ∨ J = 3) with rfl | rfl | rfl | rfl <;> rfl
            have HEP := Lib.hid ep
            clear c6 f6 ep
            go_wp2_with fail
            refine wp_still_tail1 7 (by kernel_rfl) (by kernel_rfl) ?_
            simp only [List.take_succ_cons, List.take_zero, List.drop_succ_cons, List.drop_zero]
            iterate 7 still_step
            refine wpStill_nil ?_
            go_wp2_with fail
            go_roundw
            case rel => exact ⟨i + 1, by omega, by go_num, Lib.hid (((S4.out.mask i (m ||| p) (by omega)).keep (below_drewN (Below.refl _ _) _)).congr (fun t _ => by
              by_cases h2 : t = i
              · subst h2; rw [if_pos rfl, if_pos (by omega), maskN_step _ hij, HBB.out, if_pos rfl, HM.out, HEP.out]
              · rw [if_neg h2]
                by_cases h1 : t < i
                · rw [if_pos h1, if_pos (by omega)]
                · rw [if_neg h1, if_neg (by omega)]))⟩
            case measure => simp [intOf]; omega
        · obtain rfl : i = J := by omega
          go_wp2_with fail
          go_roundw
          case rel => exact ⟨i + 1, by omega, by go_num, Lib.hid (hI.out.congr (fun t _ => by
            by_cases h1 : t < i
            · rw [if_pos h1]
            · rw [if_neg h1, maskN_keep _ (by omega)]))⟩
          case measure => simp [intOf]; omega
    · obtain rfl : J = l.length := by omega
      have h6 := fun t ht => (hS.out.at6 (t := t) ht).1
      have h4 := fun t => cell_of_heap hS.out.b4 t
      have g4 := fun t => free_of_heap hS.out.b4 t
      obtain ⟨f, hf⟩ : ∃ f, maskN (bookC l n) l.length = f := ⟨_, rfl⟩
      rw [hf] at h6
      have c0 : wr.cell? ⟨w.heap.size + 1 + 1, 0, none⟩ = some (.int .u64 (f 0)) := h6 0 (by omega)
      have c1 : wr.cell? ⟨w.heap.size + 1 + 1, 1, none⟩ = some (.int .u64 (f 1)) := h6 1 (by omega)
      have c2 : wr.cell? ⟨w.heap.size + 1 + 1, 2, none⟩ = some (.int .u64 (f 2)) := h6 2 (by omega)
      have c3 : wr.cell? ⟨w.heap.size + 1 + 1, 3, none⟩ = some (.int .u64 (f 3)) := h6 3 (by omega)
      have c4 : wr.cell? ⟨w.heap.size + 1 + 1, 4, none⟩ = some (.int .u64 (f 4)) := h6 4 (by omega)
      have c5 : wr.cell? ⟨w.heap.size + 1 + 1, 5, none⟩ = some (.int .u64 (f 5)) := h6 5 (by omega)
      have c6 : wr.cell? ⟨w.heap.size + 1 + 1, 6, none⟩ = some (.int .u64 (f 6)) := h6 6 (by omega)
      have c7 : wr.cell? ⟨w.heap.size + 1 + 1, 7, none⟩ = some (.int .u64 (f 7)) := h6 7 (by omega)
      have d0 : wr.cell? ⟨w.heap.size, 0, none⟩ = some (.int .u64 0) := h4 0
      have d1 : wr.cell? ⟨w.heap.size, 1, none⟩ = some (.int .u64 0) := h4 1
      have d2 : wr.cell? ⟨w.heap.size, 2, none⟩ = some (.int .u64 0) := h4 2
      have d3 : wr.cell? ⟨w.heap.size, 3, none⟩ = some (.int .u64 0) := h4 3
      have d4 : wr.cell? ⟨w.heap.size, 4, none⟩ = some (.int .u64 0) := h4 4
      have d5 : wr.cell? ⟨w.heap.size, 5, none⟩ = some (.int .u64 0) := h4 5
      have d6 : wr.cell? ⟨w.heap.size, 6, none⟩ = some (.int .u64 0) := h4 6
      have d7 : wr.cell? ⟨w.heap.size, 7, none⟩ = some (.int .u64 0) := h4 7
      have e0 := g4 0
      have e1 := g4 1
      have e2 := g4 2
      have e3 := g4 3
      have e4 := g4 4
      have e5 := g4 5
      have e6 := g4 6
      have e7 := g4 7
      have HF := Lib.hid hf
      have HB := Lib.hid hS.out.below
      clear hf h6 h4 g4 hS
      go_wp2_with fail
      refine bodyPost_ret (v := .agg (uA f)) ?_ rfl ⟨by rw [HF.out], ?_⟩
      · simp [results, Tryz.results52, go_sem, uA, d0, d1, d2, d3, d4, d5, d6, d7]
      · exact (((((((HB.out.setCell (p := ⟨w.heap.size, 0, none⟩) (Nat.le_refl _) _).setCell (p := ⟨w.heap.size, 1, none⟩) (Nat.le_refl _) _).setCell (p := ⟨w.heap.size, 2, none⟩) (Nat.le_refl _) _).setCell (p := ⟨w.heap.size, 3, none⟩) (Nat.le_refl _) _).setCell (p := ⟨w.heap.size, 4, none⟩) (Nat.le_refl _) _).setCell (p := ⟨w.heap.size, 5, none⟩) (Nat.le_refl _) _).setCell (p := ⟨w.heap.size, 6, none⟩) (Nat.le_refl _) _).setCell (p := ⟨w.heap.size, 7, none⟩) (Nat.le_refl _) _
end Go.Proofs.YtjbdmlpadoiicaaGreatDoor

/-! Apart of package beam. -/
namespace Go.Proofs.YtjbdmlpadoiicaaGreatDoor
open Go.RowKit Go.Shelf

theorem results_tmp4 {fn : Func} {t u v x : Tmp} (h : fn.results = #[.tmp t, .tmp u, .tmp v, .tmp x]) (tmps : Array Value) (P : Program) (w : World) :
    (results fn tmps).run P w = .ok (.tuple #[tmps.getD t undef, tmps.getD u undef, tmps.getD v undef, tmps.getD x undef]) w := by
  simp [results, h]
theorem uA_idx (f : Nat → Nat) (i : Nat) (hi : i < 8) (W : World) : (Instr.index 95 (.agg (uA f)) (.int .i64 (i : Nat))).run Tryz.prog W = .ok (.int .u64 (f i)) W := by
  rcases (by omega : i = 0 ∨ i = 1 ∨ i = 2 ∨ i = 3 ∨ i = 4 ∨ i = 5 ∨ i = 6 ∨ i = 7) with rfl | rfl | rfl | rfl | rfl | rfl | rfl | rfl <;> kernel_rfl
def apartV (o : Option (Nat × Nat)) : Value := match o with
  | some (i, j) => .tuple #[.int .i64 i, .int .i64 j, .bool true, .int .i64 0]
  | none => .tuple #[.int .i64 0, .int .i64 0, .bool false, .int .i64 0]
/-- The error of a book and a number of faults. -/
def booksE (l : List (List UInt8)) (n : Int) : Int := orI (bookE l) (faultsE n)
theorem booksE_ok {l : List (List UInt8)} {n : Int} (h : booksE l n = 0) : l.all wordB = true ∧ nodupB l = true ∧ 0 ≤ n ∧ n ≤ 2 := by
  unfold booksE orI at h
  by_cases hb : bookE l = 0
  · rw [if_pos hb] at h
    unfold bookE at hb
    split at hb
    · cases hb
    · split at hb
      · split at hb
        · rename_i h1 h2 h3
          refine ⟨h2, h3, ?_⟩
          unfold faultsE at h; split at h <;> omega
        · cases hb
      · cases hb
  · rw [if_neg hb] at h; exact absurd h hb

set_option maxRecDepth 100000 in
set_option maxHeartbeats 1000000 in
theorem Apart_err (v : Value) (l : List (List UInt8)) (n : Int) (w : World) (hv : SRow w v l) (hcap : ∀ a n c, v = .slice a n c → n ≤ c) (hm : ∀ s ∈ l, s.length ≤ maxLen) (hl : l.length ≤ 1000000) (hE : booksE l n ≠ 0) :
    Calls Tryz.prog 17 #[v, .int .i64 n] w fun e w' => e = .returned (.tuple #[.int .i64 0, .int .i64 0, .bool false, .int .i64 (booksE l n)]) ∧ Below w.heap.size w w' := by
  obtain ⟨q, eq⟩ : ∃ q, booksE l n = q := ⟨_, rfl⟩
  rw [eq] at hE ⊢
  have hne : (q != 0) = true := by simpa using hE
  have HQ : Hid (orI (bookE l) (faultsE n) = q) := Lib.hid eq
  have HC := Lib.hid (checkBook_any v l w hv hcap hm hl)
  clear hE eq hv hcap hm
  go_enter Tryz.func17, Tryz.ntmps17
  go_wp2_with fail
  refine HC.out.mono ?_
  rintro e w' ⟨rfl, rfl⟩
  go_wp2_with fail
  refine (checkFaults_any _ _).mono ?_
  rintro e w' ⟨rfl, rfl⟩
  go_wp2_with fail
  refine (or_two _ _ _ _ (cell_two0 _ _ _ _) (cell_two1 _ _ _ _)).mono ?_
  rintro e w'' ⟨rfl, rfl⟩
  rw [HQ.out]
  go_wp2_with fail
  ((try simp only [Exit.inBlock, Exit.then]); refine bodyPost_ret (results_tmp4 rfl _ _ _) rfl ?_)
  exact ⟨ret_val rfl, (Below.refl _ _).alloc (Nat.le_refl _) _⟩

set_option maxRecDepth 100000 in
set_option maxHeartbeats 1000000 in
theorem Apart_ok (v : Value) (l : List (List UInt8)) (n : Nat) (w : World) (hv : SRow w v l) (hcap : ∀ a n c, v = .slice a n c → n ≤ c) (hm : ∀ s ∈ l, s.length ≤ maxLen) (hl : l.length ≤ 4) (hE : booksE l n = 0) (hEn : Env w) (hT : Tz w) :
    Calls Tryz.prog 17 #[v, .int .i64 n] w fun e w' => e = .returned (apartV (apartO (bookC l n) l.length)) ∧ Below w.heap.size w w' := by
  obtain ⟨h1, _, _, h3⟩ := booksE_ok hE
  have HQ : Hid (orI (bookE l) (faultsE n) = 0) := Lib.hid hE
  have HC := Lib.hid (checkBook_any v l w hv hcap hm (by omega))
  have HCF : Hid (∀ W, Below w.heap.size w W → _) := Lib.hid (fun W (hW : Below w.heap.size w W) => confusable_any v l n W (hv.keep hW) hl h1 (by omega) (hEn.below hW))
  have HT := Lib.hid hT
  have HMF := Lib.hid (fun i => mask_first (bookC l n) (i := i) hl)
  have HML := Lib.hid (fun i => Nat.lt_of_lt_of_le (maskN_lt (bookC l n) l.length i) (Nat.pow_le_pow_right (by omega : 0 < 2) hl))
  obtain ⟨c, hc⟩ : ∃ c, bookC l n = c := ⟨_, rfl⟩
  rw [hc] at HCF HMF HML ⊢
  obtain ⟨ln, hln⟩ : ∃ ln, l.length = ln := ⟨_, rfl⟩
  rw [hln] at HCF HMF HML hl ⊢
  clear hE hv hcap hm hT hEn h1 h3 hc hln
  go_enter Tryz.func17, Tryz.ntmps17
  go_wp2_with fail
  refine HC.out.mono ?_
  rintro e w' ⟨rfl, rfl⟩
  go_wp2_with fail
  refine (checkFaults_any _ _).mono ?_
  rintro e w' ⟨rfl, rfl⟩
  go_wp2_with fail
  refine (or_two _ _ _ _ (cell_two0 _ _ _ _) (cell_two1 _ _ _ _)).mono ?_
  rintro e w'' ⟨rfl, rfl⟩
  rw [HQ.out]
  go_wp2_with fail
  refine (HCF.out _ ((Below.refl _ _).alloc (Nat.le_refl _) _)).mono ?_
  rintro e w2 ⟨rfl, hb⟩
  have HB := Lib.hid (((Below.refl _ w).alloc (Nat.le_refl _) _).trans (hb.mono (by simp)))
  obtain ⟨f, hf⟩ : ∃ f, maskN c ln = f := ⟨_, rfl⟩
  rw [hf]
  have HF := Lib.hid hf
  clear hb HCF hf
  go_wp2_with fail
  go_loopw [23] (fun i wr => ∃ k : Nat, k ≤ 8 ∧ i = .int .i64 k ∧ Hid (apartF c ln (8 - k) k = apartO c ln) ∧ Hid (Below w.heap.size w wr)) (fun i _ => 8 - (intOf i).toNat)
  case atStart => exact ⟨0, by omega, rfl, Lib.hid rfl, HB⟩
  case round =>
    obtain ⟨k, hk, rfl, hA, hB⟩ := hrel
    by_cases hk8 : k < 8
    · have hidx := fun W => uA_idx f k hk8 W
      have hki : (k : Int) < 8 := by omega
      have hm16 : f k < 16 := by have := HML.out k; rw [HF.out] at this; exact this
      have HMK : Hid (firstJ c ln k = if f k = 0 then none else some (tzN (f k))) := Lib.hid (by have := HMF.out k; rwa [HF.out] at this)
      obtain ⟨m, hm⟩ : ∃ m, f k = m := ⟨_, rfl⟩
      rw [hm] at hidx hm16 HMK
      have HA : Hid (apartF c ln (8 - k) k = match firstJ c ln k with | some j => some (k, j) | none => apartF c ln (8 - (k + 1)) (k + 1)) := Lib.hid (by
        rw [show 8 - k = (8 - (k + 1)) + 1 by omega]; rfl)
      by_cases h0 : m = 0
      · have hq : ((m : Int) != 0) = false := by rw [h0]; rfl
        have HN : Hid (apartF c ln (8 - (k + 1)) (k + 1) = apartO c ln) := Lib.hid (by rw [← hA.out, HA.out, HMK.out, if_pos h0])
        clear h0 hm
        go_wp2_with fail
        go_roundw
        case rel => exact ⟨k + 1, by omega, by go_num, HN, hB⟩
        case measure => simp [intOf]; omega
      · have hq : ((m : Int) != 0) = true := by simp; omega
        have HN : Hid (apartV (apartO c ln) = .tuple #[.int .i64 k, .int .i64 (tzN m), .bool true, .int .i64 0]) := Lib.hid (by rw [← hA.out, HA.out, HMK.out, if_neg h0]; rfl)
        have HTZ := Lib.hid (tz_any m h0 hm16 wr (HT.out.below hB.out))
        clear h0 hm
        go_wp2_with fail
        refine HTZ.out.mono ?_
        rintro e w' ⟨rfl, rfl⟩
        go_wp2_with fail
        ((try simp only [Exit.inBlock, Exit.then]); refine bodyPost_ret (results_tmp4 rfl _ _ _) rfl ?_)
        exact ⟨ret_val HN.out.symm, hB.out⟩
    · obtain rfl : k = 8 := by omega
      have HN : Hid (apartV (apartO c ln) = .tuple #[.int .i64 0, .int .i64 0, .bool false, .int .i64 0]) := Lib.hid (by rw [← hA.out]; rfl)
      go_wp2_with fail
      ((try simp only [Exit.inBlock, Exit.then]); refine bodyPost_ret (results_tmp4 rfl _ _ _) rfl ?_)
      exact ⟨ret_val HN.out.symm, hB.out⟩
end Go.Proofs.YtjbdmlpadoiicaaGreatDoor

/-! The reference's Apart. -/
namespace Go.Proofs.YtjbdmlpadoiicaaGreatDoor
open Go.RowKit Go.Shelf

def pairA (o : Option (Nat × Nat)) : Value := match o with
  | some (i, j) => .agg #[.int .i64 i, .int .i64 j, .bool true, .int .i64 0]
  | none => .agg #[.int .i64 0, .int .i64 0, .bool false, .int .i64 0]
theorem getD_lt {l : List (List UInt8)} {w : World} {a : Option Addr} (HC : ∀ k, k < l.length → ∃ b off, a = some ⟨b, off, none⟩ ∧ b < w.heap.size ∧ w.cell? ⟨b, off + k, none⟩ = some (.string (B (l.getD k [])))) {k b off : Nat} (h : a = some ⟨b, off, none⟩) (hk : k < l.length) {W' : World} (hb : Below w.heap.size w W') :
    W'.cell? ⟨b, off + k, none⟩ = some (.string (B (l.getD k []))) := by
  obtain ⟨b', off', e, hlt, hc⟩ := HC k hk
  rw [h] at e; cases e
  exact (hb.cell (p := ⟨b, _, none⟩) hlt).trans hc

set_option maxRecDepth 100000 in
set_option maxHeartbeats 1000000 in
theorem rApart_err (v : Value) (l : List (List UInt8)) (n : Int) (w : World) (hv : SRow w v l) (hm : ∀ s ∈ l, s.length ≤ maxLen) (hl : l.length ≤ 1000000) (hE : booksE l n ≠ 0) :
    Calls Tryz.prog 18 #[v, .int .i64 n] w fun e w' => e = .returned (.agg #[.int .i64 0, .int .i64 0, .bool false, .int .i64 (booksE l n)]) ∧ Below w.heap.size w w' := by
  obtain ⟨q, eq⟩ : ∃ q, booksE l n = q := ⟨_, rfl⟩
  rw [eq] at hE ⊢
  have hne : (q != 0) = true := by simpa using hE
  have HQ : Hid (orI (bookE l) (faultsE n) = q) := Lib.hid eq
  have HC : Hid (∀ o, _) := Lib.hid (fun o => rbook_any v l n (w.alloc o) (hv.keep ((Below.refl _ w).alloc (Nat.le_refl _) o)) hm hl)
  clear hE eq hv hm
  go_enter Tryz.func18, Tryz.ntmps18
  go_wp2_with fail
  refine (HC.out _).mono ?_
  rintro e w1 ⟨rfl, hb⟩
  rw [HQ.out]
  have hc1 : w1.heap[w.heap.size]? = some (.cells #[.int .i64 0, .int .i64 0, .bool false, .int .i64 0] 46 (0, 0)) := (hb.block _ (by simp)).trans (World.alloc_heap_new w _)
  have d0 := cell_of_heap hc1 0
  have d1 := cell_of_heap hc1 1
  have d2 := cell_of_heap hc1 2
  have d3 := cell_of_heap hc1 3
  have g0 := free_of_heap hc1 0
  have g1 := free_of_heap hc1 1
  have g2 := free_of_heap hc1 2
  have g3 := free_of_heap hc1 3
  simp at d0 d1 d2 d3
  have HB : Hid (Below w.heap.size w w1) := Lib.hid (((Below.refl _ w).alloc (Nat.le_refl _) _).trans (hb.mono (by simp)))
  clear hb hc1
  go_wp2_with fail
  refine bodyPost_ret (v := .agg #[.int .i64 0, .int .i64 0, .bool false, .int .i64 q]) ?_ rfl ⟨rfl, ?_⟩
  · simp [results, Tryz.results18, go_sem, d0, d1, d2, d3]
  · exact (((HB.out.setCell (p := ⟨w.heap.size, 0, none⟩) (Nat.le_refl _) _).setCell (p := ⟨w.heap.size, 1, none⟩) (Nat.le_refl _) _).setCell (p := ⟨w.heap.size, 2, none⟩) (Nat.le_refl _) _).setCell (p := ⟨w.heap.size, 3, none⟩) (Nat.le_refl _) _

set_option maxRecDepth 100000 in
set_option maxHeartbeats 2000000 in
theorem rApart_ok (v : Value) (l : List (List UInt8)) (n : Nat) (w : World) (hv : SRow w v l) (hm : ∀ s ∈ l, s.length ≤ maxLen) (hl : l.length ≤ 4) (hE : booksE l n = 0) :
    Calls Tryz.prog 18 #[v, .int .i64 n] w fun e w' => e = .returned (pairA (apartO (bookC l n) l.length)) ∧ Below w.heap.size w w' := by
  obtain ⟨hw, _, _, h3⟩ := booksE_ok hE
  have hn : n ≤ 2 := by omega
  have HQ : Hid (orI (bookE l) (faultsE n) = 0) := Lib.hid hE
  have HBK : Hid (∀ o, _) := Lib.hid (fun o => rbook_any v l n (w.alloc o) (hv.keep ((Below.refl _ w).alloc (Nat.le_refl _) o)) hm (by omega))
  obtain ⟨a, cap, rfl, hc⟩ := hv.form
  have HC := Lib.hid hc
  have HW : Hid (∀ k, k < l.length → wordB (l.getD k []) = true) := Lib.hid (fun k hk => List.all_eq_true.1 hw _ (getD_mem hk))
  clear hE hv hm hc h3 hw
  go_enter Tryz.func18, Tryz.ntmps18
  go_wp2_with fail
  refine (HBK.out _).mono ?_
  rintro e w1 ⟨rfl, hb⟩
  rw [HQ.out]
  have hc1 : w1.heap[w.heap.size]? = some (.cells #[.int .i64 0, .int .i64 0, .bool false, .int .i64 0] 46 (0, 0)) := (hb.block _ (by simp)).trans (World.alloc_heap_new w _)
  have HB : Hid (Below w.heap.size w w1) := Lib.hid (((Below.refl _ w).alloc (Nat.le_refl _) _).trans (hb.mono (by simp)))
  have HC1 := Lib.hid hc1
  clear hb hc1 HBK
  go_wp2_with fail
  go_loopw [6] (fun i wr => ∃ k : Nat, k ≤ l.length ∧ i = .int .i64 k ∧ Hid (apartF (bookC l n) l.length (8 - k) k = apartO (bookC l n) l.length) ∧ Hid (Below w.heap.size w wr ∧ wr.heap[w.heap.size]? = some (.cells #[.int .i64 0, .int .i64 0, .bool false, .int .i64 0] 46 (0, 0)))) (fun i _ => l.length - (intOf i).toNat)
  case atStart => exact ⟨0, by omega, rfl, Lib.hid rfl, Lib.hid ⟨HB.out, HC1.out⟩⟩
  case round =>
    obtain ⟨k, hk, rfl, hA, hB⟩ := hrel
    by_cases hkl : k < l.length
    · obtain ⟨g, off, rfl, hg, c0⟩ := HC.out k hkl
      clear c0
      have hki : (k : Int) < l.length := by omega
      have hk0 : (0 : Int) ≤ k := by omega
      have HA : Hid (apartF (bookC l n) l.length (8 - k) k = match firstJ (bookC l n) l.length k with | some j => some (k, j) | none => apartF (bookC l n) l.length (8 - (k + 1)) (k + 1)) := Lib.hid (by
        rw [show 8 - k = (8 - (k + 1)) + 1 by omega]; rfl)
      go_wp2_with fail
      go_loopw [7] (fun i ws => ∃ j : Nat, k + 1 ≤ j ∧ j ≤ l.length ∧ i = .int .i64 j ∧ Hid (jF (bookC l n) k (l.length - j) j = firstJ (bookC l n) l.length k) ∧ Hid (Below w.heap.size w ws ∧ ws.heap[w.heap.size]? = some (.cells #[.int .i64 0, .int .i64 0, .bool false, .int .i64 0] 46 (0, 0)))) (fun i _ => l.length - (intOf i).toNat)
      case atStart => exact ⟨k + 1, Nat.le_refl _, by omega, by go_num, Lib.hid rfl, hB⟩
      case round =>
        obtain ⟨j, hkj, hj, rfl, hF, hB2⟩ := hrel
        by_cases hjl : j < l.length
        · have hji : (j : Int) < l.length := by omega
          have hj0 : (0 : Int) ≤ j := by omega
          obtain ⟨xs, hxs⟩ := shareV_is (confO (l.getD k []) (l.getD j []) n)
          obtain ⟨bb, hbb⟩ : ∃ bb, bookC l n k j = bb := ⟨_, rfl⟩
          rw [(bookC_at l n hkj (by omega)).symm.trans hbb |> fun h => (show (confO (l.getD k []) (l.getD j []) n).isSome = bb from h)] at hxs
          have HJ : Hid (jF (bookC l n) k (l.length - j) j = if bookC l n k j = true then some j else jF (bookC l n) k (l.length - (j + 1)) (j + 1)) := Lib.hid (by
            rw [show l.length - j = (l.length - (j + 1)) + 1 by omega]; rfl)
          obtain ⟨x, hx⟩ : ∃ x, l.getD k [] = x := ⟨_, rfl⟩
          obtain ⟨y, hy⟩ : ∃ y, l.getD j [] = y := ⟨_, rfl⟩
          have hwx : wordB x = true := by rw [← hx]; exact HW.out k hkl
          have hwy : wordB y = true := by rw [← hy]; exact HW.out j hjl
          rw [hx, hy] at hxs
          have K0 : Hid (∀ W', Below wr.heap.size wr W' → W'.cell? ⟨g, off + k, none⟩ = some (.string (B x)) ∧ W'.cell? ⟨g, off + j, none⟩ = some (.string (B y))) :=
            Lib.hid fun W' h => ⟨by rw [← hx]; exact getD_lt HC.out rfl hkl (hB2.out.1.trans (h.mono hB2.out.1.size)), by rw [← hy]; exact getD_lt HC.out rfl hjl (hB2.out.1.trans (h.mono hB2.out.1.size))⟩
          have CK : Hid (∀ W', Below wr.heap.size wr W' → Calls Tryz.prog 50 #[.string (B x), .string (B y), .int .i64 n] W' fun e w' => e = .returned (.tuple #[.string xs, .bool bb]) ∧ Below wr.heap.size wr w') :=
            Lib.hid fun W' h => (meet_any x y n W' hwx hwy hn).mono fun e w' ⟨he, hb⟩ => ⟨by rw [he]; exact congrArg Ending.returned hxs, h.trans (hb.mono h.size)⟩
          have HBB := Lib.hid hbb
          clear hxs hx hy hwx hwy hbb
          go_wp2_with fail
          refine wp_region_turn 14 (fun _ w' => Below wr.heap.size wr w') (by kernel_rfl) (by kernel_rfl) ((Below.refl _ _).drew) ?_
          simp only [List.take_succ_cons, List.take_zero, List.drop_succ_cons, List.drop_zero]
          (apply turnB_step (by rfl); (intro w' hw'; go_simp; first | exact ⟨hw', rfl⟩ | exact rfl))
          simp only [Act.put, List.setIfInBounds_toArray, List.set_cons_succ, List.set_cons_zero]
          (apply turnB_step (by rfl); (intro w' hw'; go_simp; first | exact ⟨hw', rfl⟩ | exact rfl))
          simp only [Act.put, List.setIfInBounds_toArray, List.set_cons_succ, List.set_cons_zero]
          (apply turnB_step (by rfl); (intro w' hw'; go_simp; first | exact ⟨hw', rfl⟩ | exact rfl))
          simp only [Act.put, List.setIfInBounds_toArray, List.set_cons_succ, List.set_cons_zero]
          (apply turnB_step (by rfl); (intro w' hw'; obtain ⟨q0, q1⟩ := K0.out w' hw'; go_simp; first | exact ⟨hw', rfl⟩ | exact rfl))
          simp only [Act.put, List.setIfInBounds_toArray, List.set_cons_succ, List.set_cons_zero]
          (apply turnB_step (by rfl); (intro w' hw'; go_simp; first | exact ⟨hw', rfl⟩ | exact rfl))
          simp only [Act.put, List.setIfInBounds_toArray, List.set_cons_succ, List.set_cons_zero]
          (apply turnB_step (by rfl); (intro w' hw'; go_simp; first | exact ⟨hw', rfl⟩ | exact rfl))
          simp only [Act.put, List.setIfInBounds_toArray, List.set_cons_succ, List.set_cons_zero]
          (apply turnB_step (by rfl); (intro w' hw'; go_simp; first | exact ⟨hw', rfl⟩ | exact rfl))
          simp only [Act.put, List.setIfInBounds_toArray, List.set_cons_succ, List.set_cons_zero]
          (apply turnB_step (by rfl); (intro w' hw'; obtain ⟨q0, q1⟩ := K0.out w' hw'; go_simp; first | exact ⟨hw', rfl⟩ | exact rfl))
          simp only [Act.put, List.setIfInBounds_toArray, List.set_cons_succ, List.set_cons_zero]
          (apply turnB_step (by rfl); (intro w' hw'; go_simp; first | exact ⟨hw', rfl⟩ | exact rfl))
          simp only [Act.put, List.setIfInBounds_toArray, List.set_cons_succ, List.set_cons_zero]
          (apply turnB_step (by rfl); (intro w' hw'; go_simp; exact CK.out w' hw'))
          simp only [Act.put, List.setIfInBounds_toArray, List.set_cons_succ, List.set_cons_zero]
          (apply turnB_step (by rfl); (intro w' hw'; go_simp; first | exact ⟨hw', rfl⟩ | exact rfl))
          simp only [Act.put, List.setIfInBounds_toArray, List.set_cons_succ, List.set_cons_zero]
          (apply turnB_step (by rfl); (intro w' hw'; go_simp; first | exact ⟨hw', rfl⟩ | exact rfl))
          simp only [Act.put, List.setIfInBounds_toArray, List.set_cons_succ, List.set_cons_zero]
          (apply turnB_step (by rfl); (intro w' hw'; go_simp; first | exact ⟨hw', rfl⟩ | exact rfl))
          simp only [Act.put, List.setIfInBounds_toArray, List.set_cons_succ, List.set_cons_zero]
          (apply turnB_step (by rfl); (intro w' hw'; go_simp; first | exact ⟨hw', rfl⟩ | exact rfl))
          simp only [Act.put, List.setIfInBounds_toArray, List.set_cons_succ, List.set_cons_zero]
          intro listed w4 _ hw4
          have HB4 := Lib.hid (hB2.out.1.trans (hw4.mono hB2.out.1.size))
          have hr4 : w4.heap[w.heap.size]? = some (.cells #[.int .i64 0, .int .i64 0, .bool false, .int .i64 0] 46 (0, 0)) := (hw4.block _ (Array.getElem?_eq_some_iff.1 hB2.out.2).1).trans hB2.out.2
          have HR4 := Lib.hid hr4
          clear hw4 K0 CK
          cases bb with
          | false =>
            clear hr4
            go_wp2_with fail
            go_roundw
            case rel => exact ⟨j + 1, by omega, by omega, by go_num, Lib.hid (by rw [← hF.out, HJ.out, HBB.out]; rfl), Lib.hid ⟨HB4.out, HR4.out⟩⟩
            case measure => simp [intOf]; omega
          | true =>
            have HV : Hid (pairA (apartO (bookC l n) l.length) = .agg #[.int .i64 k, .int .i64 j, .bool true, .int .i64 0]) := Lib.hid (by
              rw [← hA.out, HA.out, ← hF.out, HJ.out, HBB.out]; rfl)
            have d0 := cell_of_heap hr4 0
            have d1 := cell_of_heap hr4 1
            have d2 := cell_of_heap hr4 2
            have d3 := cell_of_heap hr4 3
            have g0 := free_of_heap hr4 0
            have g1 := free_of_heap hr4 1
            have g2 := free_of_heap hr4 2
            have g3 := free_of_heap hr4 3
            simp at d0 d1 d2 d3
            clear hr4
            go_wp2_with fail
            refine bodyPost_ret (v := .agg #[.int .i64 k, .int .i64 j, .bool true, .int .i64 0]) ?_ rfl ⟨by rw [HV.out], ?_⟩
            · simp [results, Tryz.results18, go_sem, d0, d1, d2, d3]
            · exact (((HB4.out.setCell (p := ⟨w.heap.size, 0, none⟩) (Nat.le_refl _) _).setCell (p := ⟨w.heap.size, 1, none⟩) (Nat.le_refl _) _).setCell (p := ⟨w.heap.size, 2, none⟩) (Nat.le_refl _) _).setCell (p := ⟨w.heap.size, 3, none⟩) (Nat.le_refl _) _
        · obtain rfl : j = l.length := by omega
          have HN : Hid (apartF (bookC l n) l.length (8 - (k + 1)) (k + 1) = apartO (bookC l n) l.length) := Lib.hid (by
            rw [← hA.out, HA.out, ← hF.out, Nat.sub_self]; rfl)
          go_wp2_with fail
          go_roundw
          case rel => exact ⟨k + 1, by omega, by go_num, HN, hB2⟩
          case measure => simp [intOf]; omega
    · obtain rfl : k = l.length := by omega
      have HV : Hid (pairA (apartO (bookC l n) l.length) = .agg #[.int .i64 0, .int .i64 0, .bool false, .int .i64 0]) := Lib.hid (by
        rw [← hA.out, apartF_hi _ _ _ _ (by omega)]; rfl)
      have hr4 := hB.out.2
      have d0 := cell_of_heap hr4 0
      have d1 := cell_of_heap hr4 1
      have d2 := cell_of_heap hr4 2
      have d3 := cell_of_heap hr4 3
      have g0 := free_of_heap hr4 0
      have g1 := free_of_heap hr4 1
      have g2 := free_of_heap hr4 2
      have g3 := free_of_heap hr4 3
      simp at d0 d1 d2 d3
      clear hr4
      go_wp2_with fail
      refine bodyPost_ret (v := .agg #[.int .i64 0, .int .i64 0, .bool false, .int .i64 0]) ?_ rfl ⟨by rw [HV.out], ?_⟩
      · simp [results, Tryz.results18, go_sem, d0, d1, d2, d3]
      · exact (((hB.out.1.setCell (p := ⟨w.heap.size, 0, none⟩) (Nat.le_refl _) _).setCell (p := ⟨w.heap.size, 1, none⟩) (Nat.le_refl _) _).setCell (p := ⟨w.heap.size, 2, none⟩) (Nat.le_refl _) _).setCell (p := ⟨w.heap.size, 3, none⟩) (Nat.le_refl _) _
end Go.Proofs.YtjbdmlpadoiicaaGreatDoor
