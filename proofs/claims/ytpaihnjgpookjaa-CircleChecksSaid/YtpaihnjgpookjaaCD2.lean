/- Package firetowerref05: SamePairs. -/
import Derived.Test.YtpaihnjgpookjaaCC0
import Derived.Test.YtpaihnjgpookjaaCB1
import Derived.ChangeKeysEq
import Derived.Laws.StructEq
set_option linter.unusedVariables false
set_option linter.unusedSimpArgs false
namespace Go.Proofs.Ytpaihnjgpookjaa
open Go Go.RowKit

/-- A row of pairs. -/
def P2Row (w : World) (v : Value) (l : List Pi2) : Prop :=
  (∃ a cap, v = .slice a 0 cap ∧ l = []) ∨
  ∃ b off cap, v = .slice (some ⟨b, off, none⟩) l.length cap ∧ b < w.heap.size ∧ ∀ i, i < l.length → w.cell? ⟨b, off + i * 2, none⟩ = some (.int .i64 (l.getD i (0, 0)).1) ∧ w.cell? ⟨b, off + i * 2 + 1, none⟩ = some (.int .i64 (l.getD i (0, 0)).2)
theorem P2Row.form {w : World} {v : Value} {l : List Pi2} (h : P2Row w v l) : ∃ a cap, v = .slice a l.length cap ∧ ∀ i, i < l.length → ∃ b off, a = some ⟨b, off, none⟩ ∧ b < w.heap.size ∧ w.cell? ⟨b, off + i * 2, none⟩ = some (.int .i64 (l.getD i (0, 0)).1) ∧ w.cell? ⟨b, off + i * 2 + 1, none⟩ = some (.int .i64 (l.getD i (0, 0)).2) := by
  rcases h with ⟨a, cap, rfl, rfl⟩ | ⟨b, off, cap, rfl, hb, hc⟩
  · exact ⟨a, cap, rfl, fun k hk => by simp at hk⟩
  · exact ⟨_, cap, rfl, fun k hk => ⟨b, off, rfl, hb, hc k hk⟩⟩
theorem two_eq (x y u v : Int) (w : World) : (Op.equalIn 10000 87 (.agg #[.int .i64 x, .int .i64 y]) (.agg #[.int .i64 u, .int .i64 v])).run Try.prog w = .ok (x == u && y == v) w := by
  obtain ⟨i0, hi0⟩ : ∃ i, Try.prog.info? 3 = some i := Option.isSome_iff_exists.1 (by kernel_rfl)
  have hu : Try.prog.underlying 87 = some (.array 2 3) := by kernel_rfl
  have hui : Try.prog.underlying 3 = some (.int .i64) := by kernel_rfl
  have hc : Try.prog.cellsOf 3 = 1 := by kernel_rfl
  have p0 : ∀ x y : Int, (part 3 #[.int .i64 x, .int .i64 y] 0).run Try.prog w = .ok (.int .i64 x) w := fun x y => by kernel_rfl
  have p1 : ∀ x y : Int, (part 3 #[.int .i64 x, .int .i64 y] 1).run Try.prog w = .ok (.int .i64 y) w := fun x y => by kernel_rfl
  have e1 : ∀ z z' : Int, (Op.equalIn 9999 3 (.int .i64 z) (.int .i64 z')).run Try.prog w = .ok (z == z') w := fun z z' =>
    run_equalIn_int (P := Try.prog) w 9998 3 .i64 .i64 z z' hui
  have h := run_equalIn_array (P := Try.prog) w 9999 #[.int .i64 x, .int .i64 y] #[.int .i64 u, .int .i64 v] hu hi0
  rw [show (10000 : Nat) = 9999 + 1 from rfl, h, hc, show List.range 2 = [0, 1] from rfl]
  cases hA : (x == u) <;> cases hB : (y == v) <;> simp [Op.eqItems, Sem.run_bind, Nat.zero_mul, Nat.one_mul, p0, p1, e1, hA, hB, Result.andThen_ok, Sem.run_pure]
/-- The worlds and frames in the head of a region. -/
def SpS (W1 : World) (n c1 c2 b1 o1 b2 o2 k : Nat) (x1 x2 y1 y2 : Int) (B : Bool) (u4 u11 u12 u13 u14 u15 u16 u17 u18 u19 u20 u21 u22 u23 u24 u25 : Value) (listed : Array Bool) (a : Act) (w' : World) : Prop :=
  ∃ (l0 l1 l2 l3 l4 l5 l6 l7 l8 : Bool), listed = #[l0, l1, l2, l3, l4, l5, l6, l7, l8] ∧ a = { tmps := #[.slice (some ⟨b1, o1, none⟩) n c1, .slice (some ⟨b2, o2, none⟩) n c2, undef, undef, u4, .int .i64 (k : Int), .slice (some ⟨b1, o1, none⟩) n c1, .int .i64 (n : Int), .slice (some ⟨b2, o2, none⟩) n c2, .int .i64 (n : Int), .bool false, u11, u12, u13, u14, u15, u16, pkIf l0 (.slice (some ⟨b1, o1, none⟩) n c1) (u17), pkIf l1 (.int .i64 (k : Int)) (u18), pkIf l2 (.pointer (some ⟨b1, o1 + k * 2, none⟩)) (u19), pkIf l3 (.agg #[.int .i64 x1, .int .i64 x2]) (u20), pkIf l4 (.slice (some ⟨b2, o2, none⟩) n c2) (u21), pkIf l5 (.int .i64 (k : Int)) (u22), pkIf l6 (.pointer (some ⟨b2, o2 + k * 2, none⟩)) (u23), pkIf l7 (.agg #[.int .i64 y1, .int .i64 y2]) (u24), pkIf l8 (.bool (!B)) (u25)], defers := [] } ∧ Below W1.heap.size W1 w'
theorem cell_keep {w w' : World} {b : Nat} (h : Below w.heap.size w w') (hb : b < w.heap.size) (o : Nat) : w'.cell? ⟨b, o, none⟩ = w.cell? ⟨b, o, none⟩ := by
  unfold World.cell?; rw [h.block b hb]
theorem ext_pi {l m : List Pi2} (hl : l.length = m.length) (h : ∀ i, i < l.length → l.getD i (0, 0) = m.getD i (0, 0)) : l = m := by
  refine List.ext_getElem hl fun i h1 h2 => ?_
  have := h i h1
  rwa [List.getD_eq_getElem?_getD, List.getD_eq_getElem?_getD, List.getElem?_eq_getElem h1, List.getElem?_eq_getElem h2] at this
set_option maxRecDepth 100000 in
set_option maxHeartbeats 4000000 in
theorem samePairs_any (v1 v2 : Value) (l m : List Pi2) (w : World) (h1 : P2Row w v1 l) (h2 : P2Row w v2 m) (hl : l.length ≤ 100000) (hm : m.length ≤ 100000) :
    Calls Try.prog 42 #[v1, v2] w fun e w' => e = .returned (.bool (decide (l = m))) ∧ Below w.heap.size w w' := by
  obtain ⟨a1, c1, rfl, hc1⟩ := h1.form
  obtain ⟨a2, c2, rfl, hc2⟩ := h2.form
  have H1 := Lib.hid hc1
  have H2 := Lib.hid hc2
  have HL := Lib.hid hl
  obtain ⟨R, hR⟩ : ∃ R, decide (l = m) = R := ⟨_, rfl⟩
  rw [hR]
  have HR := Lib.hid hR
  clear hR h1 h2 hc1 hc2 hl
  by_cases hlm : l.length = m.length
  case neg =>
    have hne : ¬ ((l.length : Int) = m.length) := by omega
    have HN : Hid (R = false) := Lib.hid (by rw [← HR.out]; exact decide_eq_false (fun h => hlm (by rw [h])))
    go_enter Try.func42, Try.ntmps42
    go_wp2_with fail
    go_ret
    exact ⟨by rw [HN.out]; rfl, Below.refl _ _⟩
  have HLM := Lib.hid hlm
  have hlm' : (m.length : Int) = l.length := by omega
  have hme : m.length = l.length := hlm.symm
  rw [hme]
  clear hlm hme hlm' hm
  go_enter Try.func42, Try.ntmps42
  go_wp2_with fail
  go_loopw [5] (fun i wr => ∃ (k : Nat), k ≤ l.length ∧ i = .int .i64 k ∧ Hid (Below w.heap.size w wr) ∧ Hid (∀ j, j < k → l.getD j (0, 0) = m.getD j (0, 0))) (fun i _ => l.length - (intOf i).toNat)
  case atStart => exact ⟨0, Nat.zero_le _, rfl, Lib.hid (Below.refl _ _), Lib.hid (fun j hj => by omega)⟩
  case round =>
    obtain ⟨k, hk, rfl, hB, hN⟩ := hrel
    by_cases hkl : k < l.length
    · obtain ⟨b1, o1, rfl, hb1, p0, p1⟩ := H1.out k hkl
      obtain ⟨b2, o2, rfl, hb2, q0, q1⟩ := H2.out k (by have := HLM.out; omega)
      have hki : (k : Int) < l.length := by omega
      have hk0 : (0 : Int) ≤ k := by omega
      have ek : IntKind.i64.wrap ((k : Int) + 1) = (k : Int) + 1 := IntWalk.i64_in _ (by have := HL.out; omega)
      have HKL := Lib.hid hkl
      obtain ⟨⟨x1, x2⟩, hx⟩ : ∃ x, l.getD k (0, 0) = x := ⟨_, rfl⟩
      obtain ⟨⟨y1, y2⟩, hy⟩ : ∃ x, m.getD k (0, 0) = x := ⟨_, rfl⟩
      have HX := Lib.hid (And.intro hx hy)
      rw [hx] at p0 p1
      rw [hy] at q0 q1
      simp only at p0 p1 q0 q1
      clear hx hy
      obtain ⟨B, hBe⟩ : ∃ B, (x1 == y1 && x2 == y2) = B := ⟨_, rfl⟩
      have HQ : Hid (∀ w', (Op.equalIn 10000 87 (.agg #[.int .i64 x1, .int .i64 x2]) (.agg #[.int .i64 y1, .int .i64 y2])).run Try.prog w' = .ok B w') := Lib.hid (fun w' => by rw [two_eq, hBe])
      have HP : Hid (∀ w', Below wr.heap.size wr w' → w'.cell? ⟨b1, o1 + k * 2, none⟩ = some (.int .i64 x1) ∧ w'.cell? ⟨b1, o1 + k * 2 + 1, none⟩ = some (.int .i64 x2) ∧ w'.cell? ⟨b2, o2 + k * 2, none⟩ = some (.int .i64 y1) ∧ w'.cell? ⟨b2, o2 + k * 2 + 1, none⟩ = some (.int .i64 y2)) := Lib.hid (fun w' h => by
        have hk := hB.out.trans (h.mono hB.out.size)
        rw [cell_keep hk hb1, cell_keep hk hb1, cell_keep hk hb2, cell_keep hk hb2]
        exact ⟨p0, p1, q0, q1⟩)
      clear p0 p1 q0 q1 hb1 hb2
      go_wp2_with fail
      refine wp_region_invn (by kernel_rfl) (SpS wr l.length c1 c2 b1 o1 b2 o2 k x1 x2 y1 y2 B _ _ _ _ _ _ _ _ _ _ _ _ _ _ _ _) ⟨false, false, false, false, false, false, false, false, false, rfl, rfl, (Below.refl _ _).drew⟩ ?hend ?hstep
      case hend =>
        rintro listed a w' ⟨l0, l1, l2, l3, l4, l5, l6, l7, l8, rfl, rfl, hb⟩ hall
        have hal0 := ready_all (by kernel_rfl) rfl hall 9
        have hal : l0 = true ∧ l1 = true ∧ l2 = true ∧ l3 = true ∧ l4 = true ∧ l5 = true ∧ l6 = true ∧ l7 = true ∧ l8 = true := ⟨hal0 0 (by decide) (by simp), hal0 1 (by decide) (by simp), hal0 2 (by decide) (by simp), hal0 3 (by decide) (by simp), hal0 4 (by decide) (by simp), hal0 5 (by decide) (by simp), hal0 6 (by decide) (by simp), hal0 7 (by decide) (by simp), hal0 8 (by decide) (by simp)⟩
        obtain ⟨rfl, rfl, rfl, rfl, rfl, rfl, rfl, rfl, rfl⟩ := hal
        simp only [pkIf_true, List.drop_succ_cons, List.drop_zero]
        clear hall hal0
        have HB5 := Lib.hid (hB.out.trans (hb.mono hB.out.size))
        clear hb HP
        cases B
        · have HN2 : Hid (R = false) := Lib.hid (by
            rw [← HR.out]
            refine decide_eq_false (fun h => ?_)
            have h1 := HX.out.1
            rw [h, HX.out.2] at h1
            obtain ⟨rfl, rfl⟩ : y1 = x1 ∧ y2 = x2 := ⟨congrArg Prod.fst h1, congrArg Prod.snd h1⟩
            simp at hBe)
          clear hBe
          go_wp2_with fail
          go_ret
          exact ⟨by rw [HN2.out]; rfl, HB5.out⟩
        · have HN2 : Hid (∀ j, j < k + 1 → l.getD j (0, 0) = m.getD j (0, 0)) := Lib.hid (fun j hj => by
            by_cases e : j = k
            · subst e
              rw [Bool.and_eq_true, beq_iff_eq, beq_iff_eq] at hBe
              rw [HX.out.1, HX.out.2, hBe.1, hBe.2]
            · exact hN.out j (by omega))
          clear hBe
          go_wp2_with fail
          go_roundw
          case rel => exact ⟨k + 1, HKL.out, by go_num, HB5, HN2⟩
          case measure => have := HKL.out; simp [intOf]; omega
      case hstep =>
        rintro listed a w' i ⟨l0, l1, l2, l3, l4, l5, l6, l7, l8, rfl, rfl, hb⟩ hi
        obtain ⟨hf, o', ho', hp⟩ := mem_ready.1 hi
        have hin : i < 9 := (Array.getElem?_eq_some_iff.1 ho').1
        clear hi
        obtain ⟨p0, p1, q0, q1⟩ := HP.out w' hb
        match i, hin with
        | 0, _ =>
          obtain rfl : l0 = false := by simpa using hf
          clear hp ho'
          unfold wpOp
          simp only [pkIf_true]
          go_simp
          exact .inl ⟨true, l1, l2, l3, l4, l5, l6, l7, l8, rfl, rfl, hb⟩
        | 1, _ =>
          obtain rfl : l1 = false := by simpa using hf
          clear hp ho'
          unfold wpOp
          simp only [pkIf_true]
          go_simp
          exact .inl ⟨l0, true, l2, l3, l4, l5, l6, l7, l8, rfl, rfl, hb⟩
        | 2, _ =>
          obtain rfl : l2 = false := by simpa using hf
          cases ho'
          obtain rfl : l0 = true := by simpa using hp ⟨0, .data⟩ (by simp) rfl
          obtain rfl : l1 = true := by simpa using hp ⟨1, .data⟩ (by simp) rfl
          clear hp
          unfold wpOp
          simp only [pkIf_true]
          go_simp
          exact .inl ⟨true, true, true, l3, l4, l5, l6, l7, l8, rfl, rfl, hb⟩
        | 3, _ =>
          obtain rfl : l3 = false := by simpa using hf
          cases ho'
          obtain rfl : l2 = true := by simpa using hp ⟨2, .data⟩ (by simp) rfl
          clear hp
          unfold wpOp
          simp only [pkIf_true]
          go_simp
          exact .inl ⟨l0, l1, true, true, l4, l5, l6, l7, l8, rfl, rfl, hb⟩
        | 4, _ =>
          obtain rfl : l4 = false := by simpa using hf
          clear hp ho'
          unfold wpOp
          simp only [pkIf_true]
          go_simp
          exact .inl ⟨l0, l1, l2, l3, true, l5, l6, l7, l8, rfl, rfl, hb⟩
        | 5, _ =>
          obtain rfl : l5 = false := by simpa using hf
          clear hp ho'
          unfold wpOp
          simp only [pkIf_true]
          go_simp
          exact .inl ⟨l0, l1, l2, l3, l4, true, l6, l7, l8, rfl, rfl, hb⟩
        | 6, _ =>
          obtain rfl : l6 = false := by simpa using hf
          cases ho'
          obtain rfl : l4 = true := by simpa using hp ⟨4, .data⟩ (by simp) rfl
          obtain rfl : l5 = true := by simpa using hp ⟨5, .data⟩ (by simp) rfl
          clear hp
          unfold wpOp
          simp only [pkIf_true]
          go_simp
          exact .inl ⟨l0, l1, l2, l3, true, true, true, l7, l8, rfl, rfl, hb⟩
        | 7, _ =>
          obtain rfl : l7 = false := by simpa using hf
          cases ho'
          obtain rfl : l6 = true := by simpa using hp ⟨6, .data⟩ (by simp) rfl
          clear hp
          unfold wpOp
          simp only [pkIf_true]
          go_simp
          exact .inl ⟨l0, l1, l2, l3, l4, l5, true, true, l8, rfl, rfl, hb⟩
        | 8, _ =>
          obtain rfl : l8 = false := by simpa using hf
          cases ho'
          obtain rfl : l3 = true := by simpa using hp ⟨3, .data⟩ (by simp) rfl
          obtain rfl : l7 = true := by simpa using hp ⟨7, .data⟩ (by simp) rfl
          clear hp
          unfold wpOp
          simp only [pkIf_true]
          have hq := HQ.out w'
          go_simp
          exact .inl ⟨l0, l1, l2, true, l4, l5, l6, true, true, rfl, rfl, hb⟩
    · obtain rfl : k = l.length := by omega
      have HN2 : Hid (R = true) := Lib.hid (by
        rw [← HR.out]
        exact decide_eq_true (ext_pi HLM.out hN.out))
      go_wp2_with fail
      go_ret
      exact ⟨by rw [HN2.out]; rfl, hB.out⟩
end Go.Proofs.Ytpaihnjgpookjaa
