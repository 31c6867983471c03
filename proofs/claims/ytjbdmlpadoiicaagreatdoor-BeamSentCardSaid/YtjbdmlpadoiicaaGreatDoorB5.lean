/- letters and Read of package beam. -/
import Derived.Test.YtjbdmlpadoiicaaGreatDoorB3
set_option linter.unusedVariables false
set_option linter.unusedSimpArgs false
namespace Go.Proofs.YtjbdmlpadoiicaaGreatDoor
open Go.RowKit Go.Shelf
attribute [local go_sem] Oper.semAt_some

def letterB (code : List UInt8) : UInt8 := signsL.getD (letN code) 0
def codesOf (l : List UInt8) : List (List UInt8) := splitB 47 (Lib.trimSuffix l [47, 47])
def goodB (code : List UInt8) : Bool := decide (letN code < 29)
def lettersO (l : List UInt8) : Option (List UInt8) :=
  if Lib.hasSuffix l [47, 47] && (codesOf l).all goodB && decide (4 ≤ (codesOf l).length) then some ((((codesOf l).map letterB).drop 1).take ((codesOf l).length - 3)) else none
def lettersV (l : List UInt8) : Value := match lettersO l with
  | none => .tuple #[.string ⟨#[]⟩, .bool false]
  | some x => .tuple #[.string (B x), .bool (wordB x)]

theorem letterV_good {c : List UInt8} (h : goodB c = true) : letterV c = .tuple #[.int .u8 (letterB c).toNat, .bool true] := by
  simp only [goodB, decide_eq_true_eq] at h
  simp [letterV, h, letterB]
theorem letterV_bad {c : List UInt8} (h : goodB c = false) : letterV c = .tuple #[.int .u8 0, .bool false] := by
  simp only [goodB, decide_eq_false_iff_not] at h
  simp [letterV, h]
theorem splitB_length (c : UInt8) : ∀ l : List UInt8, (splitB c l).length ≤ l.length + 1
  | [] => by simp [splitB]
  | b :: l => by
    have := splitB_length c l
    simp only [splitB]; split <;> simp <;> omega

theorem cut_any (s : ByteArray) (w : World) (hs : s.size ≤ 1000000) :
    Calls Tryz.prog 95 #[.string s, .string ⟨#[47, 47]⟩] w fun e w' => e = .returned (.tuple #[.string (B (Lib.trimSuffix s.data.toList [47, 47])), .bool (Lib.hasSuffix s.data.toList [47, 47])]) ∧ w = w' :=
  (Tryz.strings_CutSuffix s _ w (by omega)).mono fun e w' ⟨a, b⟩ => ⟨a, b.symm⟩

theorem trim_length (l p : List UInt8) : (Lib.trimSuffix l p).length ≤ l.length := by
  unfold Lib.trimSuffix; split <;> simp

theorem conv_cut {w : World} {base g n cap : Nat} {xs : List UInt8} (h : w.ownsRow base 5 1 (.slice (some ⟨g, 0, none⟩) n cap) n (xs.map encU)) (a m c : Nat) (ha : a + m ≤ n) :
    (convert 105 9 (.slice (some ⟨g, a, none⟩) m c)).run Tryz.prog w = .ok (.string (B ((xs.drop a).take m))) w := by
  have hl : xs.length = n := by simpa using h.1
  rw [← strOfNums_B]
  refine run_convert_bytes_arg w _ _ Tryz.underlying105 Tryz.underlying5 g a m c _ (by simp; omega) (fun i hi => ?_) _ Tryz.underlying9
  have := h.cells (g := g) rfl (a + i) (encU (xs.getD (a + i) 0)) (by simp [List.getElem?_eq_getElem (show a + i < xs.length by omega)])
  have e : (⟨g, 0, none⟩ : Addr).add (a + i) = ⟨g, a + i, none⟩ := by unfold Addr.add; split <;> simp_all
  rw [e] at this
  rw [this]; simp [encU, List.getElem?_take, hi, List.getElem?_eq_getElem (show a + i < xs.length by omega)]

set_option maxRecDepth 100000 in
set_option maxHeartbeats 1000000 in
theorem letters_any (s : ByteArray) (w : World) (hs : s.size ≤ 100) (hC : Codes w) (hg : 0 < w.heap.size) :
    Calls Tryz.prog 63 #[.string s] w fun e w' => e = .returned (lettersV s.data.toList) ∧ Below w.heap.size w w' := by
  refine callsIn_wide.1 (?_ : CallsIn Fence.wide 3 _ _ _ _ _)
  have HC := Lib.hid hC
  clear hC
  have CU := Lib.hid (fun w => cut_any s w (by omega))
  by_cases hsf : Lib.hasSuffix s.data.toList [47, 47] = true
  · obtain ⟨bd, hbd⟩ : ∃ bd, Lib.trimSuffix s.data.toList [47, 47] = bd := ⟨_, rfl⟩
    have hbl : bd.length ≤ 100 := by rw [← hbd]; exact Nat.le_trans (trim_length _ _) hs
    have hcl := splitB_length 47 bd
    have HO : Hid (codesOf s.data.toList = splitB 47 bd) := Lib.hid (by unfold codesOf; rw [hbd])
    have HS := Lib.hid hsf
    rw [hbd, hsf] at CU
    clear hbd hsf
    refine callsIn_of_wp_marks Tryz.func63 rfl trivial ?_ rfl
    simp only [Tryz.ntmps63, List.size_toArray, List.length_cons, List.length_nil, Nat.reduceAdd, Nat.reduceSub, Array.replicate_succ, Array.replicate_zero, List.push_toArray, List.append_toArray, List.nil_append, List.cons_append]
    gi_wp2_with (first
      | (refine ⟨trivial, ?_⟩; gi_at_call 95; refine (callsIn_wide.2 (CU.out _)).mono ?_; rintro e w' ⟨rfl, rfl⟩)
      | (refine ⟨trivial, ?_⟩; gi_at_call 96; refine (callsIn_wide.2 (splitSeq_any _ _)).mono ?_; rintro e w' ⟨rfl, rfl⟩))
    obtain ⟨W0, hW0⟩ : ∃ W0, ((((((w.alloc (.cells #[.string ⟨#[]⟩] 9)).alloc (.cells #[.bool false] 4)).alloc (.cells #[.slice none 0 0] 105)).alloc (.cells #[.string (B bd)] 9)).alloc (.cells #[.string ⟨#[47]⟩] 9)).alloc (.cells #[.int .i64 0] 3)) = W0 := ⟨_, rfl⟩
    rw [hW0]
    have hz0 : W0.heap.size = w.heap.size + 6 := by rw [← hW0]; simp
    have b0 : Boxed W0 w.heap.size 9 (.string ⟨#[]⟩) := by rw [← hW0]; exact (((((Boxed.new w _ _).alloc _).alloc _).alloc _).alloc _).alloc _
    have b1 : Boxed W0 (w.heap.size + 1) 4 (.bool false) := by rw [← hW0]; have := Boxed.new (w.alloc (.cells #[.string ⟨#[]⟩] 9)) 4 (.bool false); rw [World.size_alloc] at this; exact (((this.alloc _).alloc _).alloc _).alloc _
    have b2 : Boxed W0 (w.heap.size + 2) 105 (.slice none 0 0) := by rw [← hW0]; have := Boxed.new ((w.alloc (.cells #[.string ⟨#[]⟩] 9)).alloc (.cells #[.bool false] 4)) 105 (.slice none 0 0); rw [World.size_alloc, World.size_alloc] at this; exact ((this.alloc _).alloc _).alloc _
    have c3 : W0.cell? ⟨w.heap.size + 3, 0, none⟩ = some (.string (B bd)) ∧ W0.frozen? ⟨w.heap.size + 3, 0, none⟩ = false := by clear b0 b1 b2; subst hW0; constructor <;> go_simp
    have c4 : W0.cell? ⟨w.heap.size + 4, 0, none⟩ = some (.string ⟨#[47]⟩) := by clear c3 b0 b1 b2; subst hW0; go_simp
    have c5 : W0.cell? ⟨w.heap.size + 5, 0, none⟩ = some (.int .i64 0) := by clear c3 c4 b0 b1 b2; subst hW0; go_simp
    have hB0 : Below w.heap.size w W0 := by rw [← hW0]; exact ((((((Below.refl _ w).alloc (Nat.le_refl _) _).alloc (by simp) _).alloc (by simp; omega) _).alloc (by simp; omega) _).alloc (by simp; omega) _).alloc (by simp; omega) _
    clear hW0
    refine rangeC (n := 3) (gf := 134) (lb := #[.pointer (some ⟨w.heap.size + 4, 0, none⟩), .pointer (some ⟨w.heap.size + 3, 0, none⟩), .pointer (some ⟨w.heap.size + 5, 0, none⟩)]) rfl (enters_of Tryz.func134 (by kernel_rfl) rfl)
      (splitSeq1_seq 2 (w.heap.size + 3) (w.heap.size + 4) (w.heap.size + 5) 47 bd (by omega) (by omega) (by omega)) ?st ?it (fun _ _ _ h k => h.trans k) ?kb (fun _ => rfl)
      (fun pre W => (∃ v, Boxed W (w.heap.size + 2) 105 v ∧ W.ownsRow W0.heap.size 5 1 v pre.length (pre.map (fun c => encU (letterB c))) ∧ pre.all goodB = true) ∧ (Boxed W w.heap.size 9 (.string ⟨#[]⟩) ∧ Boxed W (w.heap.size + 1) 4 (.bool false)) ∧ (W0.heap.size ≤ W.heap.size ∧ Below w.heap.size w W))
      (fun c pre W => (c = .ret ∧ pre.all goodB = false) ∧ (Boxed W w.heap.size 9 (.string ⟨#[]⟩) ∧ Boxed W (w.heap.size + 1) 4 (.bool false)) ∧ (W0.heap.size ≤ W.heap.size ∧ Below w.heap.size w W))
      ?i ?ix ?ii ?ixi ?h0 ?a1 ?assign ?body ?done ?stop
    case assign =>
      intro l x W K hK
      gi_wp2
      exact hK
    case st => exact fun o o' => ⟨by go_simp, by go_simp, by go_simp; rfl, by go_simp⟩
    case it =>
      rintro A X ⟨v, rfl⟩
      exact (KeepsOthers.setCell _ _ _).from _
    case kb =>
      intro W l o o' hl h _ _
      refine SameOn.putObj ?_
      intro b hb; simp at hb; omega
    case i =>
      refine OwnFrom.and (Own.from (holdsRow_own W0.heap.size (w.heap.size + 2) 105 5 1 (fun pre : List (List UInt8) => pre.length) (fun pre => pre.map (fun c => encU (letterB c))) (fun pre _ => pre.all goodB = true)) _) (OwnFrom.and ?_ (OwnFrom.and (fun _ _ _ _ hs hg _ => Nat.le_trans hs hg.size) (ownFrom_below (Nat.le_refl _) (by omega))))
      exact OwnFrom.and (Own.from (boxed_own _ _ _) _) (Own.from (boxed_own _ _ _) _)
    case ix =>
      intro c
      refine OwnFrom.and (ownFrom_pure _ (fun pre : List (List UInt8) => c = Code.ret ∧ pre.all goodB = false)) (OwnFrom.and ?_ (OwnFrom.and (fun _ _ _ _ hs hg _ => Nat.le_trans hs hg.size) (ownFrom_below (Nat.le_refl _) (by omega))))
      exact OwnFrom.and (Own.from (boxed_own _ _ _) _) (Own.from (boxed_own _ _ _) _)
    case ii =>
      rintro pre A X ⟨⟨v, hv, hr, hgd⟩, ⟨h1, h2⟩, hsz, hB⟩ ⟨s', rfl⟩
      exact ⟨⟨v, hv.other (by omega) _, ownsRow_setCell_below hr (by simp; omega) _, hgd⟩, ⟨h1.other (by omega) _, h2.other (by omega) _⟩, by simpa using hsz, hB.setCell (p := ⟨w.heap.size + 3, 0, none⟩) (by simp) _⟩
    case ixi =>
      rintro c pre A X ⟨hcp, ⟨h1, h2⟩, hsz, hB⟩ ⟨s', rfl⟩
      exact ⟨hcp, ⟨h1.other (by omega) _, h2.other (by omega) _⟩, by simpa using hsz, hB.setCell (p := ⟨w.heap.size + 3, 0, none⟩) (by simp) _⟩
    case h0 => exact ⟨⟨_, b2, World.ownsRow_nil _ _ _ _, rfl⟩, ⟨b0, b1⟩, Nat.le_refl _, hB0⟩
    case body =>
      rintro l pre x W ⟨⟨v, hv, hrow, hgd⟩, ⟨h1, h2⟩, hsz, hB⟩ hlt
      have hc := hv.cell
      obtain ⟨i0, hi, hz1, hz2, hz3⟩ := info_parts info_u8
      have LT := Lib.hid (letter_any (B x) W (fun v h => (hB.cell (p := ⟨_, v, none⟩) hg).trans (HC.out v h)))
      rw [L_B] at LT
      by_cases hgx : goodB x = true
      · rw [letterV_good hgx] at LT
        have HG := Lib.hid hgx; have HGD := Lib.hid hgd
        clear hgx hgd
        gi_wp2_with (first
          | (gi_at_builtin; refine wpListIn_append_own _ rfl _ _ 105 rfl W0.heap.size 5 i0 (.int .u8 0) 1 1 Tryz.underlying105 hi hz1 hz2 hz3 rfl (by decide) _ _ _ rfl (hrow.alloc _) ⟨W.heap.size, 0, none⟩ 1 1 [.int .u8 (letterB x).toNat] rfl rfl (cell_one_new _ _ _) (by simp [Value.oneCell']) (by unfold maxLen; omega) (by omega) (by simp; omega) ?_; intro v' w1 hown' hgrow _; obtain ⟨g', cap', rfl⟩ := ownsRow_succ hown'; obtain ⟨hv1, hv2, hr2, hk2, hb2, hs2⟩ := boxed_appended hv hrow (by omega) hsz hown' hgrow; have hc1 := hv1.cell; have hf1 := hv1.frozen)
          | (refine ⟨trivial, ?_⟩; gi_at_call 97; refine (CallsIn.inRound l (callsIn_wide.2 LT.out)).mono ?_; rintro e w' ⟨rfl, rfl⟩))
        exact ⟨hk2.from _, fun b hm => hs2 b (by simp at hm; omega) (by simp at hm; omega), ⟨⟨_, hv2, by simpa [encU] using hr2, by rw [List.all_append, HGD.out]; simp [HG.out]⟩,
          ⟨(hs2 _ (by omega) (by omega)).trans h1, (hs2 _ (by omega) (by omega)).trans h2⟩, Nat.le_trans hsz (hb2 0 (by omega)).size, hB.trans (hb2 _ (by omega))⟩⟩
      · have hgx' : goodB x = false := by simpa using hgx
        rw [letterV_bad hgx'] at LT
        have HG := Lib.hid hgx'
        clear hgx hgx'
        have e1 := h1.cell; have e2 := h1.frozen; have e3 := h2.cell; have e4 := h2.frozen
        gi_wp2_with (refine ⟨trivial, ?_⟩; gi_at_call 97; refine (CallsIn.inRound l (callsIn_wide.2 LT.out)).mono ?_; rintro e w' ⟨rfl, rfl⟩)
        exact ⟨((KeepsOthers.setCell _ _ _).trans (KeepsOthers.setCell _ _ _)).from _, ⟨rfl, by rw [List.all_append]; simp [HG.out]⟩,
          ⟨(h1.set _).other (by omega) _, (h2.other (by omega) _).set _⟩, by simpa using hsz, (hB.setCell (p := ⟨w.heap.size, 0, none⟩) (Nat.le_refl _) _).setCell (p := ⟨w.heap.size + 1, 0, none⟩) (by simp) _⟩
    case done =>
      rintro D ys W hD rfl ⟨⟨v, hv, hrow, hgd⟩, ⟨h1, h2⟩, hsz, hB⟩ hK
      have hc := hv.cell
      have e1 := h1.cell; have e2 := h1.frozen; have e3 := h2.cell; have e4 := h2.frozen
      have hl0 := hrow.1
      obtain ⟨ys, hys⟩ : ∃ ys, splitB 47 bd = ys := ⟨_, rfl⟩
      rw [hys] at hrow hcl hgd HO
      have HGD := Lib.hid hgd
      clear hys hl0 hgd
      by_cases h4 : ys.length < 4
      · have HX : Hid (lettersO s.data.toList = none) := Lib.hid (by
          simp only [lettersO, HO.out]
          rw [if_neg (by simp; intros; omega)])
        obtain ⟨a0, c0, rfl⟩ : ∃ a0 c0, v = .slice a0 ys.length c0 := by
          rcases hrow.2 with ⟨rfl, h⟩ | ⟨g, cap, cur, rfl, _⟩
          · exact ⟨_, 0, by rw [h]⟩
          · exact ⟨_, _, rfl⟩
        gi_wp2
        have hK1 := ((KeepsOthers.setCell W ⟨w.heap.size, 0, none⟩ (.string ⟨#[]⟩)).trans (KeepsOthers.setCell _ ⟨w.heap.size + 1, 0, none⟩ (.bool false))).same D _ hK rfl
        have b1' := ((h1.set (.string ⟨#[]⟩)).other (B' := w.heap.size + 1) (by omega) (.bool false))
        have b2' := ((h2.other (B' := w.heap.size) (by omega) (.string ⟨#[]⟩)).set (.bool false))
        have hne : ∀ c, c < D → some c ≠ some D := fun c hc e => by cases e; omega
        have r1 := (Boxed.kept b1' (grownBy_putObj' _ D (.deferred none)) (hne _ (by omega))).cell
        have r2 := (Boxed.kept b2' (grownBy_putObj' _ D (.deferred none)) (hne _ (by omega))).cell
        refine ⟨by simp, .inl ⟨_, _, rfl, run_takeDeferred hK1, ?_⟩⟩
        refine ⟨lettersV s.data.toList, ?_, rfl, ?_⟩
        · rw [lettersV, HX.out]
          simp only [results, Tryz.results63]
          go_simp
        · exact ((hB.setCell (p := ⟨w.heap.size, 0, none⟩) (Nat.le_refl _) _).setCell (p := ⟨w.heap.size + 1, 0, none⟩) (by simp) _).grown (grownBy_putObj' _ D _) (by have := hB.size; simpa using this) (fun k e => by cases e; omega)
      · obtain ⟨g, cap, cur, rfl, hg1, hg2, hg3, hg4, hg5, hg6⟩ : ∃ g cap cur, v = .slice (some ⟨g, 0, none⟩) ys.length cap ∧ W0.heap.size ≤ g ∧ W.heap[g]? = some (.cells cur 5 (0, 0)) ∧ ys.length ≤ cap ∧ cap ≤ maxLen ∧ cur.size = cap * 1 ∧ cur.toList.take (ys.length * 1) = ys.map (fun c => encU (letterB c)) := by
          rcases hrow.2 with ⟨_, h⟩ | h
          · omega
          · exact h
        clear hg2 hg5 hg6
        have hcv := conv_cut (xs := ys.map letterB) (by simpa [Function.comp_def] using hrow) 1 (ys.length - 2 - 1) (cap - 1) (by omega)
        have HX : Hid (lettersO s.data.toList = some (((ys.map letterB).drop 1).take (ys.length - 2 - 1))) := Lib.hid (by
          simp only [lettersO, HS.out, HO.out, HGD.out, Bool.true_and]
          rw [if_pos (by simpa using (by omega : 4 ≤ ys.length))]; rfl)
        obtain ⟨X, hX⟩ : ∃ X, ((ys.map letterB).drop 1).take (ys.length - 2 - 1) = X := ⟨_, rfl⟩
        rw [hX] at hcv HX
        have hXl : X.length ≤ 200 := by rw [← hX]; simp; omega
        clear hX
        have WD := Lib.hid (fun w => word_any (B X) w (by rw [size_B]; unfold maxLen; omega))
        gi_wp2_with (refine ⟨trivial, ?_⟩; gi_at_call 46; refine (callsIn_wide.2 (WD.out _)).mono ?_; rintro e w' ⟨rfl, rfl⟩; rw [L_B])
        have hK1 := ((KeepsOthers.setCell W ⟨w.heap.size, 0, none⟩ (.string (B X))).trans (KeepsOthers.setCell _ ⟨w.heap.size + 1, 0, none⟩ (.bool (wordB X)))).same D _ hK rfl
        have b1' := ((h1.set (.string (B X))).other (B' := w.heap.size + 1) (by omega) (.bool (wordB X)))
        have b2' := ((h2.other (B' := w.heap.size) (by omega) (.string (B X))).set (.bool (wordB X)))
        have hne : ∀ c, c < D → some c ≠ some D := fun c hc e => by cases e; omega
        have r1 := (Boxed.kept b1' (grownBy_putObj' _ D (.deferred none)) (hne _ (by omega))).cell
        have r2 := (Boxed.kept b2' (grownBy_putObj' _ D (.deferred none)) (hne _ (by omega))).cell
        refine ⟨by simp, .inl ⟨_, _, rfl, run_takeDeferred hK1, ?_⟩⟩
        refine ⟨lettersV s.data.toList, ?_, rfl, ?_⟩
        · rw [lettersV, HX.out]
          simp only [results, Tryz.results63]
          go_simp
        · exact ((hB.setCell (p := ⟨w.heap.size, 0, none⟩) (Nat.le_refl _) _).setCell (p := ⟨w.heap.size + 1, 0, none⟩) (by simp) _).grown (grownBy_putObj' _ D _) (by have := hB.size; simpa using this) (fun k e => by cases e; omega)
    case stop =>
      rintro D c pre W hD hSp ⟨⟨rfl, hbad⟩, ⟨h1, h2⟩, hsz, hB⟩ hK
      have HX : Hid (lettersO s.data.toList = none) := Lib.hid (by
        simp only [lettersO, HO.out]
        obtain ⟨r, hr⟩ := hSp
        rw [← hr]
        rw [if_neg (by simp [List.all_append, hbad])])
      clear hbad hSp
      gi_wp2
      have b1' := h1
      have b2' := h2
      have hne : ∀ c, c < D → some c ≠ some D := fun c hc e => by cases e; omega
      have r1 := (Boxed.kept b1' (grownBy_putObj' _ D (.deferred none)) (hne _ (by omega))).cell
      have r2 := (Boxed.kept b2' (grownBy_putObj' _ D (.deferred none)) (hne _ (by omega))).cell
      refine ⟨by simp, .inl ⟨_, _, rfl, run_takeDeferred hK, ?_⟩⟩
      refine ⟨lettersV s.data.toList, ?_, rfl, ?_⟩
      · rw [lettersV, HX.out]
        simp only [results, Tryz.results63]
        go_simp
      · exact hB.grown (grownBy_putObj' _ D _) (by have := hB.size; simpa using this) (fun k e => by cases e; omega)
  · have HX : Hid (lettersO s.data.toList = none) := Lib.hid (by simp [lettersO, hsf])
    have hsf' : Lib.hasSuffix s.data.toList [47, 47] = false := by simpa using hsf
    rw [hsf'] at CU
    clear hsf hsf'
    refine callsIn_of_wp Tryz.func63 rfl trivial ?_ rfl
    simp only [Tryz.ntmps63, List.size_toArray, List.length_cons, List.length_nil, Nat.reduceAdd, Nat.reduceSub, Array.replicate_succ, Array.replicate_zero, List.push_toArray, List.append_toArray, List.nil_append, List.cons_append]
    gi_wp2_with (refine ⟨trivial, ?_⟩; gi_at_call 95; refine (callsIn_wide.2 (CU.out _)).mono ?_; rintro e w' ⟨rfl, rfl⟩)
    refine bodyPost_ret (v := lettersV s.data.toList) ?_ rfl ⟨rfl, ?_⟩
    · rw [lettersV, HX.out]
      simp only [results, Tryz.results63]
      go_simp
    · exact ((Below.refl _ w).alloc (Nat.le_refl _) _).alloc (by simp) _
end Go.Proofs.YtjbdmlpadoiicaaGreatDoor

/-! Read of package beam. -/
namespace Go.Proofs.YtjbdmlpadoiicaaGreatDoor
open Go.RowKit Go.Shelf

/-- The word of flashes that have the form of a signal. -/
def formO (l : List UInt8) : Option (List UInt8) := (lettersO l).filter wordB
def readV (l : List UInt8) : Value :=
  if flashE l 100 = 0 then
    match formO l with
    | none => .tuple #[.string ⟨#[]⟩, .int .i64 7]
    | some x => if signalL x = l then .tuple #[.string (B x), .int .i64 0] else .tuple #[.string ⟨#[]⟩, .int .i64 10]
  else .tuple #[.string ⟨#[]⟩, .int .i64 (flashE l 100)]

theorem lettersV_none {l : List UInt8} (h : lettersO l = none) : lettersV l = .tuple #[.string ⟨#[]⟩, .bool false] := by simp [lettersV, h]
theorem lettersV_some {l x : List UInt8} (h : lettersO l = some x) : lettersV l = .tuple #[.string (B x), .bool (wordB x)] := by simp [lettersV, h]
theorem readV_none {l : List UInt8} (h : flashE l 100 = 0) (hf : formO l = none) : readV l = .tuple #[.string ⟨#[]⟩, .int .i64 7] := by simp [readV, h, hf]
theorem readV_ok {l x : List UInt8} (h : flashE l 100 = 0) (hf : formO l = some x) (he : signalL x = l) : readV l = .tuple #[.string (B x), .int .i64 0] := by simp [readV, h, hf, he]
theorem readV_bad {l x : List UInt8} (h : flashE l 100 = 0) (hf : formO l = some x) (he : signalL x ≠ l) : readV l = .tuple #[.string ⟨#[]⟩, .int .i64 10] := by simp [readV, h, hf, he]
theorem flashE_le {l : List UInt8} {m : Int} (h : flashE l m = 0) : (l.length : Int) ≤ m := by
  unfold flashE at h; split at h
  · cases h
  · omega

def Env (w : World) : Prop := Codes w ∧ 0 < w.heap.size
theorem Env.below {w w' : World} (h : Env w) (hb : Below w.heap.size w w') : Env w' :=
  ⟨fun v hv => (hb.cell (p := ⟨_, v, none⟩) h.2).trans (h.1 v hv), Nat.lt_of_lt_of_le h.2 hb.size⟩

set_option maxHeartbeats 1000000 in
theorem read_any (s : ByteArray) (w : World) (hs : s.size ≤ maxLen) (hE : Env w) :
    Calls Tryz.prog 25 #[.string s] w fun e w' => e = .returned (readV s.data.toList) ∧ Below w.heap.size w w' := by
  have HE := Lib.hid hE
  clear hE
  by_cases hf : flashE s.data.toList 100 = 0
  · have hl : s.size ≤ 100 := by have := flashE_le hf; have := size_toList s; omega
    have LT := Lib.hid (letters_any s w hl HE.out.1 HE.out.2)
    have HF := Lib.hid hf
    clear hf
    go_enter Tryz.func25, Tryz.ntmps25
    go_wp2_with fail
    refine (checkFlashes_any _ _ _ hs).mono ?_
    rintro e w' ⟨rfl, rfl⟩
    rw [HF.out]
    go_wp2_with fail
    refine LT.out.mono ?_
    rintro e w1 ⟨rfl, hb⟩
    cases hO : lettersO s.data.toList with
    | none =>
      have HX : Hid (readV s.data.toList = .tuple #[.string ⟨#[]⟩, .int .i64 7]) := Lib.hid (readV_none HF.out (by simp [formO, hO]))
      rw [lettersV_none hO]
      clear hO
      go_wp2
      go_ret2
      exact ⟨ret_val (by rw [HX.out]; rfl), hb⟩
    | some X =>
      rw [lettersV_some hO]
      have HO := Lib.hid hO
      clear hO
      by_cases hw : wordB X = true
      · obtain ⟨_, hX, _⟩ := word_parts hw
        have SG := Lib.hid (signal_any (B X) w1 (by rw [size_B]; unfold maxLen; omega) (HE.out.below hb).1 (HE.out.below hb).2)
        have HW := Lib.hid hw
        rw [L_B, signalV, if_pos hw] at SG
        rw [hw]
        clear hw
        by_cases he : signalL X = s.data.toList
        · have HX : Hid (readV s.data.toList = .tuple #[.string (B X), .int .i64 0]) := Lib.hid (readV_ok HF.out (x := X) (by simp [formO, HO.out, HW.out]) he)
          have hq : (signalL X == s.toList) = true := by rw [toList_L, he]; simp
          have HQ := Lib.hid he
          clear he
          go_wp2_with fail
          refine SG.out.mono ?_
          rintro e w2 ⟨rfl, hb2⟩
          go_wp2
          go_ret2
          exact ⟨ret_val (by rw [HX.out]; rfl), hb.trans (hb2.mono hb.size)⟩
        · have HX : Hid (readV s.data.toList = .tuple #[.string ⟨#[]⟩, .int .i64 10]) := Lib.hid (readV_bad HF.out (x := X) (by simp [formO, HO.out, HW.out]) he)
          have hq : (signalL X == s.toList) = false := by rw [toList_L]; simpa using he
          have HQ := Lib.hid he
          clear he
          go_wp2_with fail
          refine SG.out.mono ?_
          rintro e w2 ⟨rfl, hb2⟩
          go_wp2
          go_ret2
          exact ⟨ret_val (by rw [HX.out]; rfl), hb.trans (hb2.mono hb.size)⟩
      · have hw' : wordB X = false := by simpa using hw
        have HX : Hid (readV s.data.toList = .tuple #[.string ⟨#[]⟩, .int .i64 7]) := Lib.hid (readV_none HF.out (by simp [formO, HO.out, hw']))
        rw [hw']
        clear hw hw'
        go_wp2
        go_ret2
        exact ⟨ret_val (by rw [HX.out]; rfl), hb⟩
  · have HX : Hid (readV s.data.toList = .tuple #[.string ⟨#[]⟩, .int .i64 (flashE s.data.toList 100)]) := Lib.hid (by simp [readV, hf])
    have hb : (flashE s.data.toList 100 != 0) = true := by simpa using hf
    clear hf
    go_enter Tryz.func25, Tryz.ntmps25
    go_wp2_with fail
    refine (checkFlashes_any _ _ _ hs).mono ?_
    rintro e w' ⟨rfl, rfl⟩
    go_wp2
    go_ret2
    exact ⟨ret_val (by rw [HX.out]; rfl), Below.refl _ _⟩
end Go.Proofs.YtjbdmlpadoiicaaGreatDoor
