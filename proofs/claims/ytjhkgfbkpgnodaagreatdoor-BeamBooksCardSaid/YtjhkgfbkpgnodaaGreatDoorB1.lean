/- The iterator of flashes: it gives the codes of letters and signs, each followed by a pause. -/
import Derived.Test.YtjhkgfbkpgnodaaGreatDoorA1
import Derived.Test.YtjhkgfbkpgnodaaGreatDoorR0
import Derived.RangeFuncNested
import Derived.RangeFuncBound
import Derived.RangeFuncCalls
import Derived.RangeFuncLeaves
import Derived.Shelf.Abstract
import Derived.Shelf.RegionOpen
import Derived.OwnWalkIn
import Derived.TacticsInMore
import Derived.LoopNIn
import Derived.LoopIn
import Derived.Maps.AppendAt
namespace Go.Proofs.YtjhkgfbkpgnodaaGreatDoor
open Go.RowKit Go.Shelf
attribute [local go_sem] Oper.semAt_some

def codesL : List (List UInt8) := [[46, 45, 46, 45, 46], [46, 45], [45, 46, 46, 46], [45, 46, 45, 46], [45, 46, 46], [46], [46, 46, 45, 46], [45, 45, 46], [46, 46, 46, 46], [46, 46], [46, 45, 45, 45], [45, 46, 45], [46, 45, 46, 46], [45, 45], [45, 46], [45, 45, 45], [46, 45, 45, 46], [45, 45, 46, 45], [46, 45, 46], [46, 46, 46], [45], [46, 46, 45], [46, 46, 46, 45], [46, 45, 45], [45, 46, 46, 45], [45, 46, 45, 45], [45, 45, 46, 46], [45, 45, 45, 46], [45, 45, 45, 45]]
def codeL (v : Nat) : List UInt8 := codesL.getD v []
def flashL (t : List UInt8) : List UInt8 := t.flatMap fun c => codeL (valI c).toNat ++ [47]
def Codes (w : World) : Prop := ∀ v : Nat, v < 29 → w.cell? ⟨0, v, none⟩ = some (.string (B (codeL v)))

theorem codeL_length (v : Nat) : (codeL v).length ≤ 5 := by
  by_cases h : v < 29
  · have : ∀ v : Fin 29, (codeL v).length ≤ 5 := by decide +kernel
    exact this ⟨v, h⟩
  · unfold codeL
    rw [List.getD_eq_getElem?_getD, List.getElem?_eq_none (by simpa [codesL] using h)]; simp
theorem flashL_take (t : List UInt8) (k : Nat) (h : k < t.length) : flashL (t.take (k + 1)) = flashL (t.take k) ++ (codeL (valI (t.getD k 0)).toNat ++ [47]) := by
  rw [List.take_succ_eq_append_getElem h, List.getD_eq_getElem?_getD, List.getElem?_eq_getElem h]
  simp only [flashL, List.flatMap_append, List.flatMap_cons, List.flatMap_nil, List.append_nil, Option.getD_some]
theorem take_snocL (l : List UInt8) (k : Nat) (h : k < l.length) : l.take (k + 1) = l.take k ++ [(B l)[k]'(by simpa using h)] := by
  have := take_snoc (B l) k (by simpa using h); simpa using this
theorem flashL_pre (t : List UInt8) (k j : Nat) (hk : k < t.length) : flashL (t.take k) ++ (codeL (valI (t.getD k 0)).toNat).take j <+: flashL t := by
  have h1 : flashL (t.take (k + 1)) <+: flashL t := by
    refine ⟨flashL (t.drop (k + 1)), ?_⟩
    unfold flashL; rw [← List.flatMap_append, List.take_append_drop]
  refine List.IsPrefix.trans ?_ h1
  rw [flashL_take t k hk, ← List.append_assoc]
  exact List.IsPrefix.trans ((List.prefix_append_right_inj _).2 (List.take_prefix _ _)) (List.prefix_append _ _)

theorem flashes1_seq (n : Nat) (Bn : Nat) (t : ByteArray) (ht : t.size ≤ 100) (hv : ∀ k : Nat, k < t.size → 0 ≤ valI (bat t k)) :
    SeqC Tryz.prog n 92 #[.pointer (some ⟨Bn, 0, none⟩)] (fun x : UInt8 => #[.int .u8 x.toNat]) Eq (SameOn [Bn, 0]) (fun xs => xs = flashL t.data.toList) (fun pre => pre <+: flashL t.data.toList) (flashL t.data.toList).length
      (fun W => W.cell? ⟨Bn, 0, none⟩ = some (.string t) ∧ Codes W) := by
  rintro l J Jx W ⟨hcW, hC⟩ _ _ hY h0
  have hCW := Lib.hid hC
  have HY := Lib.hid hY
  have HV := Lib.hid hv
  clear hY hC hv
  refine callsIn_of_wp Tryz.func92 rfl trivial ?_ rfl
  simp only [Tryz.ntmps92, List.size_toArray, List.length_cons, List.length_nil, Nat.reduceAdd, Nat.reduceSub, Array.replicate_succ, Array.replicate_zero, List.push_toArray, List.append_toArray, List.nil_append, List.cons_append]
  gi_wp2
  gi_loopw [3, 4, 5, 8] (fun _ _ _ i wr => ∃ k : Nat, k ≤ t.size ∧ i = .int .i64 k ∧ J (flashL (t.data.toList.take k)) wr ∧ SameOn [Bn, 0] W wr) (fun _ _ _ i _ => t.size - (intOf i).toNat)
  case atStart => exact ⟨0, Nat.zero_le _, rfl, h0, SameOn.refl _ _⟩
  case round =>
    obtain ⟨k, hk, rfl, hJs, hB⟩ := hrel
    by_cases hlt : k < t.size
    · have hv0 := HV.out k hlt
      have hv1 := (valI_bd (bat t k)).2
      obtain ⟨v, ev⟩ : ∃ v, valI (bat t k) = v := ⟨_, rfl⟩
      rw [ev] at hv0 hv1
      have EV := Lib.hid ev
      clear ev
      have C1 : Hid (∀ (m : Nat) w, CallsIn Fence.wide m Tryz.prog 61 #[.int .u8 t[k].toNat] w fun e w' => e = .returned (.int .i64 v) ∧ w = w') := Lib.hid fun m w =>
        callsIn_wide.2 ((value_any _ w).mono fun e w' ⟨a, b⟩ => ⟨by rw [a, bat_eq t k hlt, EV.out], b⟩)
      have hcr : wr.cell? ⟨Bn, 0, none⟩ = some (.string t) := (hB.cell (p := ⟨Bn, 0, none⟩) (by simp)).trans hcW
      have hcc : wr.cell? ⟨0, v.toNat, none⟩ = some (.string (B (codeL v.toNat))) := (hB.cell (p := ⟨_, v.toNat, none⟩) (by simp)).trans (hCW.out v.toNat (by omega))
      have hL5 := codeL_length v.toNat
      have HT : Hid (flashL (t.data.toList.take (k + 1)) = flashL (t.data.toList.take k) ++ (codeL v.toNat ++ [47])) := Lib.hid (by
        rw [flashL_take _ _ hlt]; unfold bat at EV; rw [EV.out])
      have HP : Hid (∀ j, flashL (t.data.toList.take k) ++ (codeL v.toNat).take j <+: flashL t.data.toList) := Lib.hid (fun j => by
        have := flashL_pre t.data.toList k j hlt; unfold bat at EV; rwa [EV.out] at this)
      have HQ : Hid (flashL (t.data.toList.take k) ++ (codeL v.toNat ++ [47]) <+: flashL t.data.toList) := Lib.hid (by
        rw [← HT.out]; refine ⟨flashL (t.data.toList.drop (k + 1)), ?_⟩; unfold flashL; rw [← List.flatMap_append, List.take_append_drop])
      obtain ⟨cl, hcl⟩ : ∃ cl, codeL v.toNat = cl := ⟨_, rfl⟩
      rw [hcl] at hcc hL5 HT HP HQ
      obtain ⟨pk, hpk⟩ : ∃ pk, flashL (t.data.toList.take k) = pk := ⟨_, rfl⟩
      rw [hpk] at HT HP HQ hJs
      clear hcl hpk
      gi_wp2_with (refine ⟨trivial, (fun h => by cases h), ?_⟩; gi_at_call 61; refine (C1.out _ _).mono ?_; rintro e w' ⟨rfl, rfl⟩)
      gi_loopw [5, 19] (fun _ j wj => ∃ m : Nat, m ≤ cl.length ∧ j = .int .i64 m ∧ J (pk ++ cl.take m) wj ∧ SameOn [Bn, 0] W wj) (fun _ j _ => cl.length - (intOf j).toNat)
      case atStart => exact ⟨0, Nat.zero_le _, rfl, by simpa using hJs, hB⟩
      case round =>
        obtain ⟨m, hm, rfl, hJm, hBm⟩ := hrel
        by_cases hml : m < cl.length
        · have hlen : (pk ++ cl.take m).length < (flashL t.data.toList).length := by
            have h1 := (HP.out (m + 1)).length_le
            simp only [List.length_append, List.length_take] at h1 ⊢; omega
          obtain ⟨fn, tmps, assign, body, hy, hR⟩ := HY.out (pk ++ cl.take m) ((B cl)[m]'(by simpa using hml)) _ hJm hlen
          have HS := Lib.hid (take_snocL cl m hml)
          clear hlen
          gi_wp2
          refine ⟨(fun h => by cases h), ?_⟩
          refine hR.mono ?_
          rintro e W3 (⟨rfl, hJ3, hk3⟩ | ⟨rfl, hJx3⟩)
          · gi_wp2
            go_roundw
            case rel => exact ⟨m + 1, by omega, by go_num, by rw [HS.out, ← List.append_assoc]; exact hJ3, hBm.trans hk3⟩
            case measure => simp [intOf]; omega
          · gi_wp2
            refine bodyPost_ret (results_none rfl _ _ _) rfl ?_
            exact ⟨⟨_, rfl⟩, .inr ⟨_, by rw [List.append_assoc, ← HS.out]; exact HP.out (m + 1), hJx3⟩⟩
        · have hm' : cl.take m = cl := List.take_of_length_le (by omega)
          rw [hm'] at hJm
          have hlen : (pk ++ cl).length < (flashL t.data.toList).length := by
            have h1 := HQ.out.length_le
            simp only [List.length_append, List.length_cons, List.length_nil] at h1 ⊢; omega
          obtain ⟨fn, tmps, assign, body, hy, hR⟩ := HY.out (pk ++ cl) 47 _ hJm hlen
          rw [show (((47 : UInt8).toNat : Nat) : Int) = 47 from rfl] at hy
          clear hlen hm'
          gi_wp2
          refine ⟨(fun h => by cases h), ?_⟩
          refine hR.mono ?_
          rintro e W3 (⟨rfl, hJ3, hk3⟩ | ⟨rfl, hJx3⟩)
          · gi_wp2
            go_roundw
            case rel => exact ⟨k + 1, by omega, by go_num, by rw [HT.out, ← List.append_assoc]; exact hJ3, hBm.trans hk3⟩
            case measure => simp [intOf]; omega
          · gi_wp2
            refine bodyPost_ret (results_none rfl _ _ _) rfl ?_
            exact ⟨⟨_, rfl⟩, .inr ⟨_, by rw [List.append_assoc]; exact HQ.out, hJx3⟩⟩
    · rw [take_all hlt] at hJs
      gi_wp2
      go_end0
      exact ⟨⟨_, rfl⟩, .inl ⟨_, rfl, hJs⟩⟩

theorem flashes1_stops (n : Nat) (Bn : Nat) (t : ByteArray) (n₀ : Nat) (w : World) (hn : n₀ ≤ w.heap.size) (hBn : Bn < n₀) (hg : 0 < n₀) (ht : t.size ≤ 100)
    (hcell : w.cell? ⟨Bn, 0, none⟩ = some (.string t)) (hC : Codes w) (hv : ∀ k : Nat, k < t.size → 0 ≤ valI (bat t k)) :
    SeqStopsK Fence.wide n Tryz.prog 92 #[.pointer (some ⟨Bn, 0, none⟩)] (fun x : UInt8 => #[.int .u8 x.toNat]) (Below n₀) (fun xs => xs = flashL t.data.toList) (fun pre => pre <+: flashL t.data.toList) (flashL t.data.toList).length w :=
  (flashes1_seq n Bn t ht hv).toK (fun _ _ h => SameOn.of_below h (by simp; exact ⟨hBn, hg⟩)) fun _ hW =>
    ⟨(hW.cell (p := ⟨Bn, 0, none⟩) (by simp; omega)).trans hcell, fun v h => (hW.cell (p := ⟨_, v, none⟩) (by simp; omega)).trans (hC v h)⟩
end Go.Proofs.YtjhkgfbkpgnodaaGreatDoor
