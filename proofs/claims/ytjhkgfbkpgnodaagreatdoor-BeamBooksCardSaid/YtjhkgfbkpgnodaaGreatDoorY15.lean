/- Largest of package beam. -/
import Derived.Test.YtjhkgfbkpgnodaaGreatDoorY12
import Derived.WalkMore
import Derived.Scope
namespace Go.Proofs.YtjhkgfbkpgnodaaGreatDoor
open Go.RowKit Go.Shelf
attribute [local go_sem] Oper.semAt_some

set_option maxRecDepth 100000 in
set_option maxHeartbeats 1000000 in
theorem Largest_err (v : Value) (l : List (List UInt8)) (n : Int) (w : World) (hv : SRow w v l) (hcap : ∀ a n c, v = .slice a n c → n ≤ c) (hm : ∀ s ∈ l, s.length ≤ maxLen) (hl : l.length ≤ 1000000) (hE : booksE l n ≠ 0) :
    Calls Tryz.prog 19 #[v, .int .i64 n] w fun e w' => e = .returned (.tuple #[.slice none 0 0, .int .i64 (booksE l n)]) ∧ Below w.heap.size w w' := by
  obtain ⟨q, eq⟩ : ∃ q, booksE l n = q := ⟨_, rfl⟩
  rw [eq] at hE ⊢
  have hne : (q != 0) = true := by simpa using hE
  have HQ : Hid (orI (bookE l) (faultsE n) = q) := Lib.hid eq
  have HC := Lib.hid (checkBook_any v l w hv hcap hm hl)
  clear hE eq hv hcap hm
  go_enter Tryz.func19, Tryz.ntmps19
  go_wp2_with fail
  go_step3
  go_wp2_with fail
  refine HC.out.mono ?_
  rintro e w' ⟨rfl, rfl⟩
  go_wp2_with fail
  refine (checkFaults_any _ _).mono ?_
  rintro e w' ⟨rfl, rfl⟩
  go_wp2_with fail
  refine (or_two _ _ _ _ (cell_two0 _ _ _ _) (cell_two1 _ _ _ _)).mono ?_
  rintro e w'' ⟨rfl, rfl⟩
  rw [HQ.out]
  go_wp2_with fail
  try rw [Exit.noGoto_ret]
  go_ret2
  exact ⟨ret_val rfl, (Below.refl _ _).alloc (Nat.le_refl _) _⟩

/-- What stays true in Largest of package beam. -/
structure LgB (w W : World) (bT : Nat) (f : Nat → Nat) : Prop where
  below : Below w.heap.size w W
  size : bT + 2 ≤ W.heap.size
  b7 : W.heap[bT]? = some (.cells (uA f) 95 (0, 0))
  b8 : Boxed W (bT + 1) 48 (.slice none 0 0)
theorem LgB.keep {w W X : World} {bT : Nat} {f : Nat → Nat} (h : LgB w W bT f) (hb : Below W.heap.size W X) : LgB w X bT f :=
  ⟨h.below.trans (hb.mono h.below.size), Nat.le_trans h.size hb.size, (hb.block _ (by have := h.size; omega)).trans h.b7, (hb.block _ (by have := h.size; omega)).trans h.b8⟩
/-- What holds when the search has ended. -/
def LgX (w : World) (bT : Nat) (c : Nat → Nat → Bool) (marks : List Nat) (cc : Code) (pre : List Pick) (X : World) : Prop :=
  cc = .exit 0 ∧ ∃ x : Pick, (pre.map Prod.snd).find? (sepB c) = some x.2 ∧ IRow X x.1 x.2 ∧ X.cell? ⟨bT + 1, 0, none⟩ = some x.1 ∧ Below w.heap.size w X ∧ ∀ D ∈ marks, X.heap[D]? = some (.deferred (some []))
theorem LgX.own {w : World} {bT B : Nat} {c : Nat → Nat → Bool} {marks : List Nat} (hB : w.heap.size ≤ B) (hM : ∀ D ∈ marks, D < B) (cc : Code) : OwnFrom B (LgX w bT c marks cc) := by
  rintro pre X Y row ⟨h1, x, h2, h3, h4, h5, h6⟩ hg hr
  have hk : KC X Y := ⟨hg.size, fun b C t fr hb => (hg.block b (Array.getElem?_eq_some_iff.1 hb).1 (fun e => by
    obtain ⟨_, o, ho, hc⟩ := hr b e.symm
    rw [hb] at ho; cases ho; cases hc)).trans hb⟩
  refine ⟨h1, x, h2, h3.kc hk, hk.cell h4, h5.grown hg h5.size (fun k e => by have := (hr k e).1; omega), fun D hD => ?_⟩
  exact (hg.block D (Array.getElem?_eq_some_iff.1 (h6 D hD)).1 (fun e => by have := (hr D e.symm).1; have := hM D hD; omega)).trans (h6 D hD)
theorem find_prefix {pre all : List (List Nat)} {p : List Nat → Bool} {x : List Nat} (h : pre <+: all) (hf : pre.find? p = some x) : all.find? p = some x := by
  obtain ⟨r, rfl⟩ := h
  rw [List.find?_append, hf]; rfl
set_option maxRecDepth 100000 in
set_option maxHeartbeats 2000000 in
theorem Largest_ok (v : Value) (l : List (List UInt8)) (n : Nat) (w : World) (hv : SRow w v l) (hcap : ∀ a n c, v = .slice a n c → n ≤ c) (hm : ∀ s ∈ l, s.length ≤ maxLen) (hl : l.length ≤ 4) (hE : booksE l n = 0) (hEn : Env w) :
    Calls Tryz.prog 19 #[v, .int .i64 n] w fun e w' => ∃ u, e = .returned (.tuple #[u, .int .i64 0]) ∧ IRow w' u (pickS (bookC l n) l.length l.length) ∧ Below w.heap.size w w' := by
  refine callsIn_wide.1 (?_ : CallsIn Fence.wide 5 _ _ _ _ _)
  obtain ⟨h1, _, _, h3⟩ := booksE_ok hE
  have HQ : Hid (orI (bookE l) (faultsE n) = 0) := Lib.hid hE
  have HC := Lib.hid (checkBook_any v l w hv hcap hm (by omega))
  have HCF : Hid (∀ W, Below w.heap.size w W → _) := Lib.hid (fun W (hW : Below w.heap.size w W) => confusable_any v l n W (hv.keep hW) hl h1 (by omega) (hEn.below hW))
  obtain ⟨a, cap, rfl, _⟩ := hv.form
  obtain ⟨c, hc⟩ : ∃ c, bookC l n = c := ⟨_, rfl⟩
  rw [hc] at HCF ⊢
  obtain ⟨ln, hln⟩ : ∃ ln, l.length = ln := ⟨_, rfl⟩
  rw [hln] at HCF HC hl ⊢
  have HLN := Lib.hid hln
  clear hE hv hcap hm hEn h1 h3 hc hln
  refine callsIn_of_wp_marks Tryz.func19 rfl trivial ?_ rfl
  simp only [Tryz.ntmps19, List.size_toArray, List.length_cons, List.length_nil, Nat.reduceAdd, Nat.reduceSub, Array.replicate_succ, Array.replicate_zero, List.push_toArray, List.append_toArray, List.nil_append, List.cons_append]
  refine wpIn_wide.2 ?_
  go_wp2_with fail
  go_step3
  go_wp2_with fail
  refine HC.out.mono ?_
  rintro e w' ⟨rfl, rfl⟩
  go_wp2_with fail
  refine (checkFaults_any _ _).mono ?_
  rintro e w' ⟨rfl, rfl⟩
  go_wp2_with fail
  refine (or_two _ _ _ _ (cell_two0 _ _ _ _) (cell_two1 _ _ _ _)).mono ?_
  rintro e w'' ⟨rfl, rfl⟩
  rw [HQ.out]
  go_wp2_with fail
  refine (HCF.out _ ((Below.refl _ _).alloc (Nat.le_refl _) _)).mono ?_
  rintro e w2 ⟨rfl, hb⟩
  have HB : Hid (Below w.heap.size w w2) := Lib.hid (((Below.refl _ w).alloc (Nat.le_refl _) _).trans (hb.mono (by simp)))
  obtain ⟨f, hf⟩ : ∃ f, maskN c ln = f := ⟨_, rfl⟩
  rw [hf]
  have HF := Lib.hid hf
  clear hb hf
  unfold uA
  go_wp2_with fail
  go_step3
  go_wp2_with fail
  have HST : Hid (LgB w ((w2.alloc (.cells #[.int .u64 (f 0), .int .u64 (f 1), .int .u64 (f 2), .int .u64 (f 3), .int .u64 (f 4), .int .u64 (f 5), .int .u64 (f 6), .int .u64 (f 7)] 95)).alloc (.cells #[.slice none 0 0] 48)) w2.heap.size f) := Lib.hid ⟨(HB.out.alloc HB.out.size _).alloc (by have := HB.out.size; simp; omega) _, by simp, (Below.heap_alloc _ _ _ (by simp)).trans (World.alloc_heap_new w2 _), by have := World.alloc_heap_new (w2.alloc (.cells (uA f) 95)) (.cells #[.slice none 0 0] 48); simp only [World.size_alloc] at this; exact this⟩
  refine wp_loop (fun a' W => ∃ (s : Nat) (marks : List Nat) (u10 u25 u26 u27 u28 u29 u30 u31 u32 u33 u34 u35 u36 u37 : Value), s ≤ ln ∧ a' = { tmps := #[.slice a ln cap, .int .i64 n, undef, undef, .slice none 0 0, .int .i64 0, .int .i64 0, .pointer (some ⟨w2.heap.size, 0, none⟩), .pointer (some ⟨w2.heap.size + 1, 0, none⟩), .int .i64 s, u10, .slice a ln cap, .int .i64 (bookE l), .int .i64 n, .int .i64 (faultsE n), .slice (some ⟨w.heap.size, 0, none⟩) 2 2, .int .i64 0, .int .i64 0, .bool false, undef, .slice a ln cap, .int .i64 n, .agg #[.int .u64 (f 0), .int .u64 (f 1), .int .u64 (f 2), .int .u64 (f 3), .int .u64 (f 4), .int .u64 (f 5), .int .u64 (f 6), .int .u64 (f 7)], .slice a ln cap, .int .i64 ln, u25, u26, u27, u28, u29, u30, u31, u32, u33, u34, u35, u36, u37, undef], defers := marks.map fun D => { target := .collected D, args := #[] } } ∧ marks.Nodup ∧ (∀ D ∈ marks, w.heap.size ≤ D ∧ W.heap[D]? = some (.deferred (some []))) ∧ Hid (LgB w W w2.heap.size f) ∧ Hid (pickS c ln s = pickS c ln ln)) (fun a' _ => (intOf (a'.tmps.getD 9 undef)).toNat) ?start ?round
  case start => exact ⟨ln, [], undef, undef, undef, undef, undef, undef, undef, undef, undef, undef, undef, undef, undef, undef, Nat.le_refl _, rfl, List.nodup_nil, (fun D h => by cases h), HST, Lib.hid rfl⟩
  case round =>
    clear HST
    rintro a' W ⟨s, marks, u10, u25, u26, u27, u28, u29, u30, u31, u32, u33, u34, u35, u36, u37, hs, rfl, hnd, hm, hSt, hP⟩
    have hwb := HB.out.size
    cases s with
    | zero =>
      have c8 := hSt.out.b8.cell
      have HND := Lib.hid hnd
      have HM := Lib.hid hm
      have HPN : Hid (pickS c ln ln = []) := Lib.hid (by rw [← hP.out]; rfl)
      have HBW := Lib.hid hSt.out.below
      clear hnd hm hP hSt
      go_wp2_with fail
      try rw [Exit.noGoto_ret]
      exact leaves_marks (F := Fence.wide) (n := 5) w.heap.size marks W HND.out HM.out (fun W' hk hb => ⟨.tuple #[.slice none 0 0, .int .i64 0], by simp [results, Tryz.results19, go_sem], .slice none 0 0, rfl, .inl ⟨rfl, HPN.out⟩, HBW.out.trans hb⟩)
    | succ s =>
      go_wp2_with (go_at_call 55; refine (choices_any _ _ _).mono ?_; rintro e w5 ⟨rfl, rfl⟩)
      have hsz := hSt.out.size
      obtain ⟨W3, hW3⟩ : ∃ W3, (W.alloc (.cells #[.int .i64 ln] 3)).alloc (.cells #[.int .i64 ((s + 1 : Nat) : Int)] 3) = W3 := ⟨_, rfl⟩
      have hW3s : W3.heap.size = W.heap.size + 2 := by rw [← hW3]; simp
      have hB3 : Below W.heap.size W W3 := by rw [← hW3]; exact ((Below.refl _ W).alloc (Nat.le_refl _) _).alloc (by simp) _
      have c1 : W3.cell? ⟨W.heap.size + 1, 0, none⟩ = some (.int .i64 ((s + 1 : Nat) : Int)) := by subst hW3; go_simp
      have c2 : W3.cell? ⟨W.heap.size, 0, none⟩ = some (.int .i64 ln) := by subst hW3; go_simp
      have hW3' : (W.alloc (.cells #[.int .i64 ln] 3)).alloc (.cells #[.int .i64 ((s : Int) + 1)] 3) = W3 := by rw [← hW3]; simp
      rw [hW3']
      have S3 := Lib.hid (hSt.out.keep hB3)
      have HM3 : Hid (∀ D ∈ marks, w.heap.size ≤ D ∧ W3.heap[D]? = some (.deferred (some []))) := Lib.hid (fun D hD => ⟨(hm D hD).1, (hB3.block D (Array.getElem?_eq_some_iff.1 (hm D hD).2).1).trans (hm D hD).2⟩)
      have HND := Lib.hid hnd
      have HML : Hid (∀ D ∈ marks, D < W3.heap.size) := Lib.hid (fun D hD => (Array.getElem?_eq_some_iff.1 (HM3.out D hD).2).1)
      have HPK : Hid (pickS c ln (s + 1) = match (extL ln (s + 1) []).find? (sepB c) with | some l => l | none => pickS c ln s) := Lib.hid rfl
      clear hW3 hW3' hB3 hm hnd hSt
      refine wpIn_wide.1 (?_ : Code.wpIn Fence.wide 5 _ _ _ _ _)
      refine rangeV (n := 5) (gf := 88) (lb := #[.pointer (some ⟨W.heap.size + 1, 0, none⟩), .pointer (some ⟨W.heap.size, 0, none⟩)]) rfl (enters_of Tryz.func88 (by kernel_rfl) rfl)
        (choices1_seq 4 (W.heap.size + 1) W.heap.size ln (s + 1) hl (by omega)) ?st ?it (fun _ _ _ h k => h.trans k) ?kb (fun _ => rfl) ?vv
        (fun pre X => Below W3.heap.size W3 X ∧ (pre.all fun x => !sepB c x.2) = true)
        (LgX w w2.heap.size c marks)
        ?i ?ix ?ii ?ixi ?h0 ?a1 ?assign ?body ?done ?stop
      case assign =>
        intro l' x X K hK
        gi_wp2
        exact hK
      case st => exact fun o o' => ⟨by go_simp, by go_simp⟩
      case it => exact fun A X h => KeepsFrom.of_grownBy h (fun j e => by cases e)
      case kb =>
        intro X l' o o' _ h hc _
        refine ⟨by simp, fun b C t fr hb' => ?_⟩
        refine (World.putObj_heap_other ?_).trans hb'
        rintro rfl
        rw [h] at hb'; cases hb'; cases hc
      case vv =>
        intro x X l' o o' hx _ h hc _
        refine ⟨hx.1.kc ⟨by simp, fun b C t fr hb' => ?_⟩, hx.2⟩
        refine (World.putObj_heap_other ?_).trans hb'
        rintro rfl
        rw [h] at hb'; cases hb'; cases hc
      case i => exact OwnFrom.and (ownFrom_below (Nat.le_refl _) (Nat.le_refl _)) (ownFrom_pure _ (fun pre : List Pick => (pre.all fun x => !sepB c x.2) = true))
      case ix => exact LgX.own (by have := S3.out.below.size; omega) HML.out
      case ii =>
        rintro pre A X ⟨h1, h2⟩ h
        exact ⟨h1.grown h h1.size (fun k e => by cases e), h2⟩
      case ixi =>
        intro cc pre A X hs' h
        exact LgX.own (B := W3.heap.size) (by have := S3.out.below.size; omega) HML.out cc pre A X none hs' h (fun r e => by cases e)
      case h0 => exact ⟨Below.refl _ _, rfl⟩
      case body =>
        rintro l' pre ⟨xv, xl⟩ X ⟨hB, hall⟩ ⟨hx, hxn, hxl⟩ hlt
        have hx : IRow X xv xl := hx
        have hxn : ∀ y ∈ xl, y < ln := hxn
        have hxl' : xl.length = s + 1 := hxl
        clear hxl
        have S4 := S3.out.keep hB
        have HSEP := Lib.hid (separate_any xv xl c ln X hl hx hxn (by omega))
        rw [HF.out] at HSEP
        have h7 := fun t => cell_of_heap S4.b7 t
        have q0 : X.cell? ⟨w2.heap.size, 0, none⟩ = some (.int .u64 (f 0)) := h7 0
        have q1 : X.cell? ⟨w2.heap.size, 1, none⟩ = some (.int .u64 (f 1)) := h7 1
        have q2 : X.cell? ⟨w2.heap.size, 2, none⟩ = some (.int .u64 (f 2)) := h7 2
        have q3 : X.cell? ⟨w2.heap.size, 3, none⟩ = some (.int .u64 (f 3)) := h7 3
        have q4 : X.cell? ⟨w2.heap.size, 4, none⟩ = some (.int .u64 (f 4)) := h7 4
        have q5 : X.cell? ⟨w2.heap.size, 5, none⟩ = some (.int .u64 (f 5)) := h7 5
        have q6 : X.cell? ⟨w2.heap.size, 6, none⟩ = some (.int .u64 (f 6)) := h7 6
        have q7 : X.cell? ⟨w2.heap.size, 7, none⟩ = some (.int .u64 (f 7)) := h7 7
        obtain ⟨bb, hbb⟩ : ∃ bb, sepB c xl = bb := ⟨_, rfl⟩
        rw [hbb] at HSEP
        unfold uA at HSEP
        have HBB := Lib.hid hbb
        have HX := Lib.hid hx
        have HS4 := Lib.hid S4
        have HBX := Lib.hid hB
        have HAL := Lib.hid hall
        obtain ⟨xa, xc, hxv, _⟩ := hx.form
        subst hxv
        clear h7 S4 hbb hx hB hall hxn hxl'
        dsimp only
        cases bb with
        | false =>
          gi_wp2_with (refine ⟨trivial, ?_⟩; gi_at_call 56; refine (CallsIn.inRound l' (callsIn_wide.2 HSEP.out)).mono ?_; rintro e w6 ⟨rfl, hb6⟩)
          have hkf : KeepsFrom W3.heap.size X w6 := KeepsFrom.of_grownBy (ItG.of_below hb6) (fun j e => by cases e)
          have hall2 : ((pre ++ [((Value.slice xa xl.length xc, xl) : Pick)]).all fun x => !sepB c x.2) = true := by rw [List.all_append, HAL.out]; simp [HBB.out]
          have hbw : Below W3.heap.size W3 w6 := HBX.out.trans (hb6.mono HBX.out.size)
          exact ⟨hkf, KC.of_below hb6, hbw, hall2⟩
        | true =>
          gi_wp2_with (refine ⟨trivial, ?_⟩; gi_at_call 56; refine (CallsIn.inRound l' (callsIn_wide.2 HSEP.out)).mono ?_; rintro e w6 ⟨rfl, hb6⟩; have HS6 := HS4.out.keep hb6; have q8 := HS6.b8.cell; have q9 := HS6.b8.frozen; have HB6 := Lib.hid hb6; clear hb6)
          have HKF : Hid (KeepsFrom W3.heap.size X (w6.setCell ⟨w2.heap.size + 1, 0, none⟩ (.slice xa xl.length xc))) := Lib.hid ((KeepsFrom.of_grownBy (ItG.of_below HB6.out) (fun j e => by cases e)).trans ((KeepsOthers.setCell w6 ⟨w2.heap.size + 1, 0, none⟩ (.slice xa xl.length xc)).from _))
          refine ⟨HKF.out, rfl, ⟨.slice xa xl.length xc, xl⟩, ?_, ?_, ?_, ?_, ?_⟩
          · rw [List.map_append, List.find?_append]
            have : (pre.map Prod.snd).find? (sepB c) = none := by
              rw [List.find?_eq_none]
              intro y hy
              obtain ⟨x, hx, rfl⟩ := List.mem_map.1 hy
              simpa using List.all_eq_true.1 HAL.out x hx
            rw [this]
            simp [HBB.out]
          · exact ((HX.out.keep HB6.out).far (r := w2.heap.size + 1) (fun x => by rw [q8]; simp)).setCell 0 _ |>.row
          · rw [(HS6.b8.set (.slice xa xl.length xc)).cell]
          · exact HS6.below.setCell (p := ⟨w2.heap.size + 1, 0, none⟩) (by simp; omega) _
          · intro D hD
            have h1 := HM3.out D hD
            have h2 := HML.out D hD
            have hne : D ≠ w2.heap.size + 1 := by
              rintro rfl
              have := S3.out.b8
              rw [show W3.heap[w2.heap.size + 1]? = _ from this] at h1
              cases h1.2
            exact (Below.heap_setCell _ _ _ D (by simpa using hne)).trans ((HB6.out.block D (Nat.lt_of_lt_of_le h2 HBX.out.size)).trans ((HBX.out.block D h2).trans h1.2))
      case done =>
        rintro D xs X hD hS ⟨hB, hall⟩ hK
        have HFN : Hid (pickS c ln s = pickS c ln ln) := Lib.hid (by
          rw [← hP.out, HPK.out]
          have : (extL ln (s + 1) []).find? (sepB c) = none := by
            rw [← hS, List.find?_eq_none]
            intro y hy
            obtain ⟨x, hx, rfl⟩ := List.mem_map.1 hy
            simpa using List.all_eq_true.1 hall x hx
          rw [this])
        have HS4 := Lib.hid (S3.out.keep hB)
        have HM4 : Hid (∀ D' ∈ D :: marks, w.heap.size ≤ D' ∧ X.heap[D']? = some (.deferred (some []))) := Lib.hid (by
          intro D' hD'
          rcases List.mem_cons.1 hD' with rfl | h
          · exact ⟨by have := S3.out.below.size; omega, hK⟩
          · exact ⟨(HM3.out D' h).1, (hB.block D' (HML.out D' h)).trans (HM3.out D' h).2⟩)
        have HN4 : Hid ((D :: marks).Nodup) := Lib.hid (List.nodup_cons.2 ⟨fun h => by have := HML.out D h; omega, HND.out⟩)
        clear hB hall hS hK
        simp only [Exit.inBlock, Exit.then]
        go_wp2_with fail
        exact ⟨⟨s, D :: marks, _, _, _, _, _, _, _, _, _, _, _, _, _, _, by omega, rfl, HN4.out, HM4.out, HS4, HFN⟩, by simp [intOf]⟩
      case stop =>
        rintro D cc pre X hD hSp ⟨rfl, ⟨xv, xl⟩, hf, hr, hc8, hb, hmk⟩ hK
        have hr : IRow X xv xl := hr
        have hc8 : X.cell? ⟨w2.heap.size + 1, 0, none⟩ = some xv := hc8
        have HPN : Hid (pickS c ln ln = xl) := Lib.hid (by
          rw [← hP.out, HPK.out, find_prefix hSp hf])
        have HM4 : Hid (∀ D' ∈ D :: marks, w.heap.size ≤ D' ∧ X.heap[D']? = some (.deferred (some []))) := Lib.hid (by
          intro D' hD'
          rcases List.mem_cons.1 hD' with rfl | h
          · exact ⟨by have := S3.out.below.size; omega, hK⟩
          · exact ⟨(HM3.out D' h).1, hmk D' h⟩)
        have HN4 : Hid ((D :: marks).Nodup) := Lib.hid (List.nodup_cons.2 ⟨fun h => by have := HML.out D h; omega, HND.out⟩)
        obtain ⟨xa, xc, hxv, _⟩ := hr.form
        subst hxv
        have HR := Lib.hid hr
        have HBX := Lib.hid hb
        clear hf hr hb hmk hK hSp
        refine wpIn_wide.2 ?_
        go_wp2_with fail
        try rw [Exit.noGoto_ret]
        exact leaves_marks (F := Fence.wide) (n := 5) w.heap.size (D :: marks) X HN4.out HM4.out (fun W' hk hb => ⟨.tuple #[.slice xa xl.length xc, .int .i64 0], by simp [results, Tryz.results19, go_sem], .slice xa xl.length xc, rfl, by rw [HPN.out]; exact HR.out.kc hk, HBX.out.trans hb⟩)
end Go.Proofs.YtjhkgfbkpgnodaaGreatDoor
