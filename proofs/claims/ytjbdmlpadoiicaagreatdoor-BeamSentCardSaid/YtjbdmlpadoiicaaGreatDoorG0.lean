/- The example that every statement of package beam plays first. -/
import Derived.Test.YtjbdmlpadoiicaaGreatDoorF4
import Derived.Test.YtjbdmlpadoiicaaGreatDoorE3
import Derived.Test.YtjbdmlpadoiicaaGreatDoorB5
import Derived.Test.YtjbdmlpadoiicaaGreatDoorA3
set_option linter.unusedVariables false
set_option linter.unusedSimpArgs false
namespace Go.Proofs.YtjbdmlpadoiicaaGreatDoor
open Go.RowKit Go.Shelf

/-- The package's tables lie as its text lays them. -/
structure Glob (w : World) : Prop where
  env : Env w
  parts : Parts w
theorem Glob.below {w w' : World} (h : Glob w) (hb : Below w.heap.size w w') : Glob w' :=
  ⟨h.env.below hb, by
    obtain ⟨fr, hp⟩ := h.parts
    exact ⟨fr, (hb.block _ (Array.getElem?_eq_some_iff.1 hp).1).trans hp⟩⟩

theorem res_ex : resL [46, 45] 1 = [[45], [45, 46], [46], [46, 45], [46, 45, 45], [46, 46, 45]] := by
  have e : outL [46, 45] 1 = [[46, 45], [45], [46, 46, 45], [45, 46], [46], [46, 45, 45]] := by decide
  refine tidy_eq (by unfold Strict; decide) (fun x => ?_)
  rw [e]
  simp only [List.mem_cons, List.not_mem_nil, or_false]
  constructor <;> (rintro (h | h | h | h | h | h) <;> simp [h])
theorem fr_two (w : World) (a b c d : Int) (t : TypeId) : FRow (w.alloc (.cells #[.int .i64 a, .int .i64 b, .int .i64 c, .int .i64 d] t)) (.slice (some ⟨w.heap.size, 0, none⟩) 2 2) [(a, b), (c, d)] := by
  refine .inr ⟨_, 0, 2, rfl, by simp, fun i hi => ?_⟩
  rcases (by simp at hi; omega : i = 0 ∨ i = 1) with rfl | rfl <;> exact ⟨by rw [World.cell?_alloc_new]; rfl, by rw [World.cell?_alloc_new]; rfl⟩

set_option maxRecDepth 100000 in
set_option maxHeartbeats 1000000 in
theorem head_any (w : World) (hG : Glob w) :
    Calls Tryz.prog 7 #[] w fun e w' => e = .returned (.bool true) ∧ Below w.heap.size w w' := by
  have E1 : Hid (checksV [99, 97, 98] = .tuple #[.string ⟨#[99]⟩, .string ⟨#[102, 107]⟩, .int .i64 0]) := Lib.hid (by kernel_rfl)
  have E2 : Hid (signalV [97] = .tuple #[.string ⟨#[46, 45, 47, 46, 45, 47, 46, 45, 47, 46, 45, 47, 47]⟩, .int .i64 0]) := Lib.hid (by kernel_rfl)
  have E3 : Hid (readV [46, 45, 47, 45, 46, 46, 46, 47, 46, 45, 47, 46, 45, 47, 47] = .tuple #[.string ⟨#[]⟩, .int .i64 10]) := Lib.hid (by kernel_rfl)
  have E4 : Hid (faultedV [46, 45, 47] [(2, 0), (1, 1)] = .tuple #[.string ⟨#[46, 46, 47]⟩, .int .i64 0]) := Lib.hid (by kernel_rfl)
  have E5 : Hid (fewE [46, 45, 47] [47] = .tuple #[.int .i64 2, .bool true, .int .i64 0]) := Lib.hid (by kernel_rfl)
  have E6 : Hid (resL [46, 45] 1 = [[45], [45, 46], [46], [46, 45], [46, 45, 45], [46, 46, 45]]) := Lib.hid res_ex
  have E7 : Hid (packV 1 27 [110, 111] = .tuple #[.string ⟨#[109, 98, 98, 110, 111]⟩, .int .i64 0]) := Lib.hid (by kernel_rfl)
  have E8 : Hid (timeV [46, 45, 47] = .tuple #[.int .i64 8, .int .i64 0]) := Lib.hid (by kernel_rfl)
  have HG := Lib.hid hG
  clear hG
  go_enter Tryz.func7, Tryz.ntmps7
  go_wp2_with fail
  refine (checks_any _ _ (by decide)).mono ?_
  rintro e w1 ⟨rfl, rfl⟩
  rw [show checksV _ = _ from E1.out]
  go_wp2_with fail
  refine (signal_any _ _ (by decide) HG.out.env.1 HG.out.env.2).mono ?_
  rintro e w1 ⟨rfl, hb1⟩
  rw [show signalV _ = _ from E2.out]
  go_wp2_with fail
  refine (read_any _ _ (by decide) (HG.out.below hb1).env).mono ?_
  rintro e w2 ⟨rfl, hb2⟩
  rw [show readV _ = _ from E3.out]
  go_wp2_with fail
  refine (faulted_any _ _ _ _ (by decide) (fr_two _ _ _ _ _ _) (by decide)).mono ?_
  rintro e w3 ⟨rfl, hb3⟩
  rw [show faultedV _ _ = _ from E4.out]
  have hz2 : w2.heap.size ≤ w2.heap.size + 1 := by omega
  have hb3' : Below w2.heap.size w2 w3 := ((Below.refl _ w2).alloc (Nat.le_refl _) _).trans (hb3.mono (by simp))
  have hB3 := (hb1.trans (hb2.mono hb1.size)).trans (hb3'.mono (Nat.le_trans hb1.size hb2.size))
  have HB3 := Lib.hid hB3
  clear hb1 hb2 hb3 hb3' hz2 hB3
  go_wp2_with fail
  refine (Fewest_any _ _ _ (by decide) (by decide) (HG.out.below HB3.out).parts).mono ?_
  rintro e w4 ⟨rfl, hb4⟩
  rw [show fewE _ _ = _ from E5.out]
  have HB4 := Lib.hid (HB3.out.trans (hb4.mono HB3.out.size))
  clear hb4
  go_wp2_with fail
  refine (Results_ok [46, 45] 1 _ (by decide)).mono ?_
  rintro e w5 ⟨r, cap, rfl, hrow, hb5⟩
  rw [E6.out] at hrow ⊢
  have HB5 := Lib.hid (HB4.out.trans (hb5.mono HB4.out.size))
  have HR := Lib.hid hrow
  clear hb5 hrow
  go_wp2_with fail
  refine (pack_any _ _ _ _ (by decide)).mono ?_
  rintro e w6 ⟨rfl, hb6⟩
  rw [show packV _ _ _ = _ from E7.out]
  have HB6 := Lib.hid (HB5.out.trans (hb6.mono HB5.out.size))
  have hc0 : w6.cell? ⟨r, 0, none⟩ = some (.string ⟨#[45]⟩) := by
    have := HR.out.cellAt 0 (by decide)
    rw [hb6.cell (p := ⟨r, 0, none⟩) (HR.out.lt r rfl).2]
    exact this
  have hc5 : w6.cell? ⟨r, 5, none⟩ = some (.string ⟨#[46, 46, 45]⟩) := by
    have := HR.out.cellAt 5 (by decide)
    rw [hb6.cell (p := ⟨r, 5, none⟩) (HR.out.lt r rfl).2]
    exact this
  clear hb6
  go_wp2_with fail
  refine (time_any _ _ (by decide)).mono ?_
  rintro e w7 ⟨rfl, rfl⟩
  rw [show timeV _ = _ from E8.out]
  go_wp2_with fail
  go_ret
  exact ⟨rfl, HB6.out⟩
end Go.Proofs.YtjbdmlpadoiicaaGreatDoor
