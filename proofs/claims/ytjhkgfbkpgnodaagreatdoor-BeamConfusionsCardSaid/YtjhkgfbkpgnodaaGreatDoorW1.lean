/- The reference's grow: what it lays into its set. -/
import Derived.Test.YtjhkgfbkpgnodaaGreatDoorW0
import Derived.Maps.RangeWalk
import Derived.Maps.Ext
import Derived.Maps.StringElems
import Derived.Handy
namespace Go.Proofs.YtjhkgfbkpgnodaaGreatDoor
open Go.RowKit Go.Shelf

def setD (S : List (List UInt8)) : DataW Unit := Maps.setOf (.lit (.bool true)) (S.map Lit.string)
/-- Block b is a map that holds these strings, each with true. -/
def SetAt (w : World) (b : Nat) (S : List (List UInt8)) : Prop := w.ownsMap Tryz.prog 9 (plainElem (H := Unit) Tryz.prog 4) b S.length (setD S)
theorem lawStr : Maps.Keyed Tryz.prog 9 := Maps.string_keyed Tryz.underlying9
theorem SetAt.of {w : World} {b : Nat} {S : List (List UInt8)} {x : List UInt8} (h : w.ownsMap Tryz.prog 9 (plainElem (H := Unit) Tryz.prog 4) b (S.length + 1) ((setD S).put (.string x) (.lit (.bool true)))) : SetAt w b (S ++ [x]) := by
  unfold SetAt setD
  rw [List.map_append, List.map_singleton, Maps.setOf_snoc, List.length_append]; exact h

set_option maxRecDepth 100000 in
set_option maxHeartbeats 1000000 in
theorem grow_any (s : List UInt8) (hs : s.length ≤ 100) (b : Nat) : ∀ (m k left : Nat) (out : List UInt8) (S : List (List UInt8)) (w : World) (a t : Int) (so : ByteArray), k + m = s.length → left ≤ 2 → out.length + 2 * m ≤ 1000 →
    S.length + (growR (s.drop k) left out).length ≤ 1000000 → SetAt w b S → a = (k : Int) → t = (left : Int) → so = B out →
    Calls Tryz.prog 117 #[.map (some b), .string (B s), .int .i64 a, .string so, .int .i64 t] w fun e w' => e = .returned (.tuple #[]) ∧ SetAt w' b (S ++ growR (s.drop k) left out) ∧ w.grownBy w' (some b) := by
  intro m
  induction m using Nat.strongRecOn with
  | ind m ih =>
    intro k left out S w a t so hm hl2 hout hN hS ha ht hso
    subst ha ht hso
    cases m with
    | zero =>
      have hd : s.drop k = [] := List.drop_of_length_le (by omega)
      rw [hd, growR_nil] at hN ⊢
      have hz : ((k : Int) == (s.length : Int)) = true := by simp; omega
      have hown : w.ownsMap Tryz.prog 9 (plainElem (H := Unit) Tryz.prog 4) b S.length (setD S) := hS
      have hroom : S.length < maxLen := by simp at hN; unfold maxLen; omega
      have hkey : keyOf Tryz.prog 9 (.string (B out)) = some (.string out) := by
        have := WideMaps.keyOf_string_mk Tryz.underlying9 (s := B out) (by rw [size_B]; unfold maxLen; omega)
        rw [L_B] at this; exact this
      have hval : plainElem (H := Unit) Tryz.prog 4 (.bool true) = some (.lit (.bool true), []) := plainElem_bool Tryz.underlying4 true
      have HO := Lib.hid hown
      have HK := Lib.hid hkey
      have HV := Lib.hid hval
      clear ih hN hS hd hm hown hkey hval
      go_enter Tryz.func117, Tryz.ntmps117
      go_wp2_with (at_mapUpdate; refine wpList_mapUpdate_own _ rfl _ _ _ 59 rfl 9 4 lawStr Tryz.underlying59 _ b S.length (setD S) rfl HO.out hroom _ _ (.string out) rfl rfl HK.out (.lit (.bool true)) [] HV.out ?_; intro w1 hown1 hgrow1)
      (try simp only [Exit.inBlock, Exit.then])
      refine bodyPost_ret (results_none rfl _ _ _) rfl ?_
      exact ⟨rfl, SetAt.of hown1, hgrow1⟩
    | succ m =>
      have hk : k < s.length := by omega
      obtain ⟨c, hc⟩ : ∃ c, s.getD k 0 = c := ⟨_, rfl⟩
      have hcut : ∀ W', (Instr.slice 9 (.string (B s)) (some (.int .i64 (k : Int))) (some (.int .i64 ((k : Int) + 1))) none).run Tryz.prog W' = .ok (.string (B [c])) W' := fun W' =>
        sslice_run W' s [c] k (k + 1) (by omega) (by omega) (by rw [cut1 s k hk, hc]) _ _ rfl (by omega)
      rw [drop_cons' s k hk, hc] at hN ⊢
      have hz : ((k : Int) == (s.length : Int)) = false := by simp; omega
      have hol : out.length ≤ 1000 := by omega
      have ha1 : ¬ 9223372036854775807 < out.length + 1 := by omega
      have ha2 : ¬ 9223372036854775807 < out.length + 1 + 1 := by omega
      cases left with
      | zero =>
        rw [growR_zero] at hN ⊢
        have H1 : Hid (∀ (a t : Int) (so : ByteArray), a = ((k + 1 : Nat) : Int) → t = ((0 : Nat) : Int) → so = B (out ++ [c]) → _) := Lib.hid (fun a t so h1 h2 h3 => ih m (by omega) (k + 1) 0 (out ++ [c]) S w a t so (by omega) (by omega) (by simp; omega) hN hS h1 h2 h3)
        clear ih hN hS
        go_enter Tryz.func117, Tryz.ntmps117
        go_wp2_with fail
        refine (H1.out _ _ _ (by omega) (by omega) (by rw [B_add])).mono ?_
        rintro e w1 ⟨rfl, hS1, hg1⟩
        go_wp2_with fail
        (try simp only [Exit.inBlock, Exit.then])
        refine bodyPost_ret (results_none rfl _ _ _) rfl ?_
        exact ⟨rfl, hS1, hg1⟩
      | succ left =>
        rw [growR_succ] at hN ⊢
        simp only [List.length_append] at hN
        have hz2 : (((left : Int) + 1) == 0) = false := by simp; omega
        have hl1 : left ≤ 1 := by omega
        have H1 : Hid (∀ (S' : List (List UInt8)) (w' : World) (a t : Int) (so : ByteArray), S'.length + (growR (s.drop (k + 1)) (left + 1) (out ++ [c])).length ≤ 1000000 → SetAt w' b S' → a = ((k + 1 : Nat) : Int) → t = ((left + 1 : Nat) : Int) → so = B (out ++ [c]) → _) := Lib.hid (fun S' w' a t so h0 hS' h1 h2 h3 => ih m (by omega) (k + 1) (left + 1) (out ++ [c]) S' w' a t so (by omega) (by omega) (by simp; omega) h0 hS' h1 h2 h3)
        have H2 : Hid (∀ (S' : List (List UInt8)) (w' : World) (a t : Int) (so : ByteArray), S'.length + (growR (s.drop (k + 1)) left out).length ≤ 1000000 → SetAt w' b S' → a = ((k + 1 : Nat) : Int) → t = (left : Int) → so = B out → _) := Lib.hid (fun S' w' a t so h0 hS' h1 h2 h3 => ih m (by omega) (k + 1) left out S' w' a t so (by omega) (by omega) (by omega) h0 hS' h1 h2 h3)
        have H3 : Hid (∀ (S' : List (List UInt8)) (w' : World) (a t : Int) (so : ByteArray), S'.length + (growR (s.drop (k + 1)) left (out ++ [c] ++ [c])).length ≤ 1000000 → SetAt w' b S' → a = ((k + 1 : Nat) : Int) → t = (left : Int) → so = B (out ++ [c] ++ [c]) → _) := Lib.hid (fun S' w' a t so h0 hS' h1 h2 h3 => ih m (by omega) (k + 1) left (out ++ [c] ++ [c]) S' w' a t so (by omega) (by omega) (by simp; omega) h0 hS' h1 h2 h3)
        have HN := Lib.hid hN
        have HS := Lib.hid hS
        by_cases hq : k + 1 < s.length
        · obtain ⟨y, hy⟩ : ∃ y, s.getD (k + 1) 0 = y := ⟨_, rfl⟩
          have hsw : swapR (s.drop (k + 1)) left c out = growR (s.drop (k + 2)) left (out ++ [y] ++ [c]) := by rw [drop_cons' s (k + 1) hq, hy]; rfl
          have hcut2 : ∀ W', (Instr.slice 9 (.string (B s)) (some (.int .i64 ((k : Int) + 1))) (some (.int .i64 ((k : Int) + 2))) none).run Tryz.prog W' = .ok (.string (B [y])) W' := fun W' =>
            sslice_run W' s [y] (k + 1) (k + 2) (by omega) (by omega) (by rw [cut1 s (k + 1) hq, hy]) _ _ (by omega) (by omega)
          have H4 : Hid (∀ (S' : List (List UInt8)) (w' : World) (a t : Int) (so : ByteArray), S'.length + (growR (s.drop (k + 2)) left (out ++ [y] ++ [c])).length ≤ 1000000 → SetAt w' b S' → a = ((k + 2 : Nat) : Int) → t = (left : Int) → so = B (out ++ [y] ++ [c]) → _) := Lib.hid (fun S' w' a t so h0 hS' h1 h2 h3 => ih (m - 1) (by omega) (k + 2) left (out ++ [y] ++ [c]) S' w' a t so (by omega) (by omega) (by simp; omega) h0 hS' h1 h2 h3)
          have hlt : ((k : Int) + 1) < s.length := by omega
          have HSW := Lib.hid hsw
          clear ih hN hS hsw hy
          go_enter Tryz.func117, Tryz.ntmps117
          go_wp2_with fail
          refine (H1.out S w _ _ _ (by have := HN.out; omega) HS.out (by omega) (by omega) (by rw [B_add])).mono ?_
          rintro e w1 ⟨rfl, hS1, hg1⟩
          have HS1 := Lib.hid hS1; have HG1 := Lib.hid hg1
          clear hS1 hg1
          go_wp2_with fail
          refine (H2.out _ w1 _ _ _ (by have := HN.out; simp only [List.length_append]; omega) HS1.out (by omega) (by omega) rfl).mono ?_
          rintro e w2 ⟨rfl, hS2, hg2⟩
          have HS2 := Lib.hid hS2; have HG2 := Lib.hid hg2
          clear hS2 hg2
          go_wp2_with fail
          refine (H3.out _ w2 _ _ _ (by have := HN.out; simp only [List.length_append]; omega) HS2.out (by omega) (by omega) (by simp only [B_add])).mono ?_
          rintro e w3 ⟨rfl, hS3, hg3⟩
          have HS3 := Lib.hid hS3; have HG3 := Lib.hid hg3
          clear hS3 hg3
          go_wp2_with fail
          refine (H4.out _ w3 _ _ _ (by have := HN.out; rw [HSW.out] at this; simp only [List.length_append]; omega) HS3.out (by omega) (by omega) (by simp only [B_add])).mono ?_
          rintro e w4 ⟨rfl, hS4, hg4⟩
          have HS4 := Lib.hid hS4; have HG4 := Lib.hid hg4
          clear hS4 hg4
          go_wp2_with fail
          refine bodyPost_end (results_none rfl _ _ _) rfl ?_
          refine ⟨rfl, ?_, ((HG1.out.trans HG2.out).trans HG3.out).trans HG4.out⟩
          have := HS4.out
          rw [HSW.out]
          simpa only [List.append_assoc] using this
        · have hsw : swapR (s.drop (k + 1)) left c out = [] := by rw [List.drop_of_length_le (by omega)]; rfl
          have hlt : decide (((k : Int) + 1) < s.length) = false := decide_eq_false (by omega)
          have HSW := Lib.hid hsw
          clear ih hN hS hsw
          go_enter Tryz.func117, Tryz.ntmps117
          go_wp2_with fail
          refine (H1.out S w _ _ _ (by have := HN.out; omega) HS.out (by omega) (by omega) (by rw [B_add])).mono ?_
          rintro e w1 ⟨rfl, hS1, hg1⟩
          have HS1 := Lib.hid hS1; have HG1 := Lib.hid hg1
          clear hS1 hg1
          go_wp2_with fail
          refine (H2.out _ w1 _ _ _ (by have := HN.out; simp only [List.length_append]; omega) HS1.out (by omega) (by omega) rfl).mono ?_
          rintro e w2 ⟨rfl, hS2, hg2⟩
          have HS2 := Lib.hid hS2; have HG2 := Lib.hid hg2
          clear hS2 hg2
          go_wp2_with fail
          refine (H3.out _ w2 _ _ _ (by have := HN.out; simp only [List.length_append]; omega) HS2.out (by omega) (by omega) (by simp only [B_add])).mono ?_
          rintro e w3 ⟨rfl, hS3, hg3⟩
          have HS3 := Lib.hid hS3; have HG3 := Lib.hid hg3
          clear hS3 hg3
          go_wp2_with fail
          refine bodyPost_end (results_none rfl _ _ _) rfl ?_
          refine ⟨rfl, ?_, (HG1.out.trans HG2.out).trans HG3.out⟩
          have := HS3.out
          rw [HSW.out, List.append_nil]
          simpa only [List.append_assoc] using this
end Go.Proofs.YtjhkgfbkpgnodaaGreatDoor
