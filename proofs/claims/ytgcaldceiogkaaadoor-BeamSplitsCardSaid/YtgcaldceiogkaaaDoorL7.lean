/- The walk of BeamStreams. -/
import Derived.Test.YtgcaldceiogkaaaDoorG0
import Derived.Test.YtgcaldceiogkaaaDoorU3
namespace Go.Proofs.YtgcaldceiogkaaaDoor
open Go.RowKit Go.Shelf

theorem time_form (s : List UInt8) : ∃ n e : Int, timeV s = .tuple #[.int .i64 n, .int .i64 e] := by
  unfold timeV; split <;> exact ⟨_, _, rfl⟩
theorem below_two {a w : World} (h : Below a.heap.size a w) (o : Obj) : Below a.heap.size a (w.alloc o) := h.alloc h.size o

set_option maxRecDepth 100000 in
set_option maxHeartbeats 4000000 in
theorem streams_law (sb : ByteArray) (W : World) (hG : Glob W) (hM : Mx W) (ms : sb.size ≤ maxLen) :
    Calls Tryd.prog 6 #[.string sb] W fun e w' => e = .returned (.bool true) ∧ Below W.heap.size W w' := by
  obtain ⟨s, rfl⟩ : ∃ s, sb = B s := ⟨_, (B_L sb).symm⟩
  have HG := Lib.hid hG
  have HM := Lib.hid hM
  clear hG hM
  by_cases h1 : 5000 < s.length
  · have g1 : (5000 : Int) < s.length := by omega
    go_enter Tryd.func6, Tryd.ntmps6
    go_wp2_with fail
    refine (head_any _ HG.out).mono ?_
    rintro e v1 ⟨rfl, hb⟩
    have HB := Lib.hid hb
    clear hb
    go_wp2_with fail
    go_ret
    exact ⟨rfl, HB.out⟩
  have g1 : ¬ (5000 : Int) < s.length := by omega
  obtain ⟨tn, te, ht⟩ := time_form s
  have HT : Hid (timeV (B s).data.toList = .tuple #[.int .i64 tn, .int .i64 te]) := Lib.hid (by rw [L_B]; exact ht)
  have MS := Lib.hid ms
  clear ht ms
  by_cases hE : flashE s 4000 = 0
  · have HE := Lib.hid hE
    have h4 := flashE_le' hE
    have hcnt := splitN_count s.length s
    have hpl : (splitP s).1.length ≤ 1000000 := by unfold splitP; omega
    obtain ⟨P, eP⟩ : ∃ P, (splitP s).1 = P := ⟨_, rfl⟩
    obtain ⟨R, eR⟩ : ∃ R, (splitP s).2 = R := ⟨_, rfl⟩
    have HP := Lib.hid eP
    have HR := Lib.hid eR
    rw [eP] at hpl
    clear hE h4 hcnt eP eR
    go_enter Tryd.func6, Tryd.ntmps6
    go_wp2_with fail
    refine (head_any _ HG.out).mono ?_
    rintro e v1 ⟨rfl, hb⟩
    have HB := Lib.hid hb
    clear hb
    go_wp2_with fail
    refine (time_any _ _ MS.out).mono ?_
    rintro e w' ⟨rfl, rfl⟩
    rw [HT.out]
    go_wp2_with fail
    refine (rtime_any _ _ MS.out).mono ?_
    rintro e w' ⟨rfl, rfl⟩
    rw [HT.out]
    go_wp2_with fail
    refine (Split_ok s _ HE.out (HM.out.below HB.out)).mono ?_
    rintro e v2 ⟨x, rfl, hx, hb⟩
    rw [HP.out] at hx
    rw [HR.out]
    have HX := Lib.hid hx
    obtain ⟨a, cap, rfl, _⟩ := hx.form
    have HB2 := Lib.hid (HB.out.trans (hb.mono HB.out.size))
    clear hb hx
    go_wp2_with fail
    refine (rSplit_ok s _ HE.out).mono ?_
    rintro e v3 ⟨y, rfl, hy, hb⟩
    rw [HP.out] at hy
    rw [HR.out]
    have HX2 := Lib.hid (HX.out.keep hb)
    have HY := Lib.hid hy
    obtain ⟨a2, cap2, rfl, _⟩ := hy.form
    have HB3 := Lib.hid (HB2.out.trans (hb.mono HB2.out.size))
    clear hb hy
    unfold cutA
    go_wp2_with fail
    have hba := (Below.refl v3.heap.size v3).alloc (Nat.le_refl _) (.cells #[.slice a2 P.length cap2, .string (B R), .int .i64 0] 49)
    have HX3 := Lib.hid (HX2.out.keep hba)
    have HY3 := Lib.hid (HY.out.keep hba)
    have HB4 := Lib.hid (HB3.out.trans (hba.mono HB3.out.size))
    clear hba
    refine (texts_any _ _ P P _ HX3.out HY3.out hpl hpl).mono ?_
    rintro e v4 ⟨rfl, hb⟩
    rw [show decide (P = P) = true from decide_eq_true rfl]
    have hc1 : v4.cell? ⟨v3.heap.size, 1, none⟩ = some (.string (B R)) := (hb.cell (p := ⟨v3.heap.size, 1, none⟩) (by simp)).trans (by rw [World.cell?_alloc_new]; rfl)
    have hc2 : v4.cell? ⟨v3.heap.size, 2, none⟩ = some (.int .i64 0) := (hb.cell (p := ⟨v3.heap.size, 2, none⟩) (by simp)).trans (by rw [World.cell?_alloc_new]; rfl)
    have HB5 := Lib.hid (HB4.out.trans (hb.mono HB4.out.size))
    clear hb
    go_wp2_with fail
    go_ret
    exact ⟨rfl, HB5.out⟩
  · have HE : Hid (flashE (B s).data.toList 4000 ≠ 0) := Lib.hid (by rw [L_B]; exact hE)
    obtain ⟨q, eq⟩ : ∃ q, flashE (B s).data.toList 4000 = q := ⟨_, rfl⟩
    have HQ := Lib.hid eq
    clear hE eq
    go_enter Tryd.func6, Tryd.ntmps6
    go_wp2_with fail
    refine (head_any _ HG.out).mono ?_
    rintro e v1 ⟨rfl, hb⟩
    have HB := Lib.hid hb
    clear hb
    go_wp2_with fail
    refine (time_any _ _ MS.out).mono ?_
    rintro e w' ⟨rfl, rfl⟩
    rw [HT.out]
    go_wp2_with fail
    refine (rtime_any _ _ MS.out).mono ?_
    rintro e w' ⟨rfl, rfl⟩
    rw [HT.out]
    go_wp2_with fail
    refine (Split_err _ _ MS.out HE.out).mono ?_
    rintro e w' ⟨rfl, rfl⟩
    rw [HQ.out]
    go_wp2_with fail
    refine (rSplit_err _ _ MS.out HE.out).mono ?_
    rintro e v3 ⟨rfl, hb⟩
    rw [HQ.out]
    have HB3 := Lib.hid (HB.out.trans (hb.mono HB.out.size))
    clear hb
    unfold cutA
    go_wp2_with fail
    have HB4 := Lib.hid (below_two HB3.out (.cells #[.slice none 0 0, .string (B []), .int .i64 q] 49))
    refine (texts_any _ _ [] [] _ (SRow.nil _) (SRow.nil _) (by simp) (by simp)).mono ?_
    rintro e v4 ⟨rfl, hb⟩
    rw [show decide (([] : List (List UInt8)) = []) = true from decide_eq_true rfl]
    have hc1 : v4.cell? ⟨v3.heap.size, 1, none⟩ = some (.string (B [])) := (hb.cell (p := ⟨v3.heap.size, 1, none⟩) (by simp)).trans (by rw [World.cell?_alloc_new]; rfl)
    have hc2 : v4.cell? ⟨v3.heap.size, 2, none⟩ = some (.int .i64 q) := (hb.cell (p := ⟨v3.heap.size, 2, none⟩) (by simp)).trans (by rw [World.cell?_alloc_new]; rfl)
    have HB5 := Lib.hid (HB4.out.trans (hb.mono HB4.out.size))
    clear hb
    go_wp2_with fail
    go_ret
    exact ⟨rfl, HB5.out⟩
end Go.Proofs.YtgcaldceiogkaaaDoor
