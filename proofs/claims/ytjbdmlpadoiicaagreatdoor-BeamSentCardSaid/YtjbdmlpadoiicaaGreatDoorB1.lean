/- The iterator of flashes: it gives the codes of letters and signs, each followed by a pause. -/
import Derived.Test.YtjbdmlpadoiicaaGreatDoorA1
import Derived.Test.YtjbdmlpadoiicaaGreatDoorR0
import Derived.RangeFuncNested
import Derived.RangeFuncBound
import Derived.RangeFuncCalls
import Derived.RangeFuncLeaves
import Derived.Shelf.Abstract
import Derived.Shelf.RegionOpen
import Derived.OwnWalkIn
import Derived.TacticsInMore
import Derived.LoopNIn
import Derived.LoopIn
import Derived.Maps.AppendAt
set_option linter.unusedVariables false
set_option linter.unusedSimpArgs false
namespace Go.Proofs.YtjbdmlpadoiicaaGreatDoor
open Go.RowKit Go.Shelf
attribute [local go_sem] Oper.semAt_some

def codesL : List (List UInt8) := [[46, 45, 46, 45, 46], [46, 45], [45, 46, 46, 46], [45, 46, 45, 46], [45, 46, 46], [46], [46, 46, 45, 46], [45, 45, 46], [46, 46, 46, 46], [46, 46], [46, 45, 45, 45], [45, 46, 45], [46, 45, 46, 46], [45, 45], [45, 46], [45, 45, 45], [46, 45, 45, 46], [45, 45, 46, 45], [46, 45, 46], [46, 46, 46], [45], [46, 46, 45], [46, 46, 46, 45], [46, 45, 45], [45, 46, 46, 45], [45, 46, 45, 45], [45, 45, 46, 46], [45, 45, 45, 46], [45, 45, 45, 45]]
def codeL (v : Nat) : List UInt8 := codesL.getD v []
def flashL (t : List UInt8) : List UInt8 := t.flatMap fun c => codeL (valI c).toNat ++ [47]
def Codes (w : World) : Prop := ∀ v : Nat, v < 29 → w.cell? ⟨0, v, none⟩ = some (.string (B (codeL v)))

theorem codeL_length (v : Nat) : (codeL v).length ≤ 5 := by
  by_cases h : v < 29
  · have : ∀ v : Fin 29, (codeL v).length ≤ 5 := by decide +kernel
    exact this ⟨v, h⟩
  · unfold codeL
    rw [List.getD_eq_getElem?_getD, List.getElem?_eq_none (by simpa [codesL] using h)]; simp
theorem flashL_take (t : List UInt8) (k : Nat) (h : k < t.length) : flashL (t.take (k + 1)) = flashL (t.take k) ++ (codeL (valI (t.getD k 0)).toNat ++ [47]) := by
  rw [List.take_succ_eq_append_getElem h, List.getD_eq_getElem?_getD, List.getElem?_eq_getElem h]
  simp only [flashL, List.flatMap_append, List.flatMap_cons, List.flatMap_nil, List.append_nil, Option.getD_some]
theorem take_snocL (l : List UInt8) (k : Nat) (h : k < l.length) : l.take (k + 1) = l.take k ++ [(B l)[k]'(by simpa using h)] := by
  have := take_snoc (B l) k (by simpa using h); simpa using this
theorem flashL_pre (t : List UInt8) (k j : Nat) (hk : k < t.length) : flashL (t.take k) ++ (codeL (valI (t.getD k 0)).toNat).take j <+: flashL t := by
  have h1 : flashL (t.take (k + 1)) <+: flashL t := by
    refine ⟨flashL (t.drop (k + 1)), ?_⟩
    unfold flashL; rw [← List.flatMap_append, List.take_append_drop]
  refine List.IsPrefix.trans ?_ h1
  rw [flashL_take t k hk, ← List.append_assoc]
  exact List.IsPrefix.trans ((List.prefix_append_right_inj _).2 (List.take_prefix _ _)) (List.prefix_append _ _)

theorem flashes1_seq (n : Nat) (Bn : Nat) (t : ByteArray) (ht : t.size ≤ 100) (hv : ∀ k : Nat, k < t.size → 0 ≤ valI (bat t k)) :
    SeqC Tryz.prog n 92 #[.pointer (some ⟨Bn, 0, none⟩)] (fun x : UInt8 => #[.int .u8 x.toNat]) Eq (SameOn [Bn, 0]) (fun xs => xs = flashL t.data.toList) (fun pre => pre <+: flashL t.data.toList) (flashL t.data.toList).length
      (fun W => W.cell? ⟨Bn, 0, none⟩ = some (.string t) ∧ Codes W) := by
  rintro l J Jx W ⟨hcW, hC⟩ _ _ hY h0
  have hCW := Lib.hid hC
  have HY := Lib.hid hY
  have HV := Lib.hid hv
  clear hY hC hv
  refine callsIn_of_wp Tryz.func92 rfl trivial ?_ rfl
  simp only [Tryz.ntmps92, List.size_toArray, List.length_cons, List.length_nil, Nat.reduceAdd, Nat.reduceSub, Array.replicate_succ, Array.replicate_zero, List.push_toArray, List.append_toArray, List.nil_append, List.cons_append]
  gi_wp2
  gi_loopw [3, 4, 5, 8] (fun _ _ _ i wr => ∃ k : Nat, k ≤ t.size ∧ i = .int .i64 k ∧ J (flashL (t.data.toList.take k)) wr ∧ SameOn [Bn, 0] W wr) (fun _ _ _ i _ => t.size - (intOf i).toNat)
  case atStart => exact ⟨0, Nat.zero_le _, rfl, h0, SameOn.refl _ _⟩
  case round =>
    obtain ⟨k, hk, rfl, hJs, hB⟩ := hrel
    by_cases hlt : k < t.size
    · have hv0 := HV.out k hlt
      have hv1 := (valI_bd (bat t k)).2
      obtain ⟨v, ev⟩ : ∃ v, valI (bat t k) = v := ⟨_, rfl⟩
      rw [ev] at hv0 hv1
      have EV := Lib.hid ev
      clear ev
      have C1 : Hid (∀ (m : Nat) w, CallsIn Fence.wide m Tryz.prog 61 #[.int .u8 t[k].toNat] w fun e w' => e = .returned (.int .i64 v) ∧ w = w') := Lib.hid fun m w =>
        callsIn_wide.2 ((value_any _ w).mono fun e w' ⟨a, b⟩ => ⟨by rw [a, bat_eq t k hlt, EV.out], b⟩)
      have hcr : wr.cell? ⟨Bn, 0, none⟩ = some (.string t) := (hB.cell (p := ⟨Bn, 0, none⟩) (by simp)).trans hcW
      have hcc : wr.cell? ⟨0, v.toNat, none⟩ = some (.string (B (codeL v.toNat))) := (hB.cell (p := ⟨_, v.toNat, none⟩) (by simp)).trans (hCW.out v.toNat (by omega))
      have hL5 := codeL_length v.toNat
      have HT : Hid (flashL (t.data.toList.take (k + 1)) = flashL (t.data.toList.take k) ++ (codeL v.toNat ++ [47])) := Lib.hid (by
        rw [flashL_take _ _ hlt]; unfold bat at EV; rw [EV.out])
      have HP : Hid (∀ j, flashL (t.data.toList.take k) ++ (codeL v.toNat).take j <+: flashL t.data.toList) := Lib.hid (fun j => by
        have := flashL_pre t.data.toList k j hlt; unfold bat at EV; rwa [EV.out] at this)
      have HQ : Hid (flashL (t.data.toList.take k) ++ (codeL v.toNat ++ [47]) <+: flashL t.data.toList) := Lib.hid (by
        rw [← HT.out]; refine ⟨flashL (t.data.toList.drop (k + 1)), ?_⟩; unfold flashL; rw [← List.flatMap_append, List.take_append_drop])
      obtain ⟨cl, hcl⟩ : ∃ cl, codeL v.toNat = cl := ⟨_, rfl⟩
      rw [hcl] at hcc hL5 HT HP HQ
      obtain ⟨pk, hpk⟩ : ∃ pk, flashL (t.data.toList.take k) = pk := ⟨_, rfl⟩
      rw [hpk] at HT HP HQ hJs
      clear hcl hpk
      gi_wp2_with (refine ⟨trivial, (fun h => by cases h), ?_⟩; gi_at_call 61; refine (C1.out _ _).mono ?_; rintro e w' ⟨rfl, rfl⟩)
      gi_loopw [5, 19] (fun _ j wj => ∃ m : Nat, m ≤ cl.length ∧ j = .int .i64 m ∧ J (pk ++ cl.take m) wj ∧ SameOn [Bn, 0] W wj) (fun _ j _ => cl.length - (intOf j).toNat)
      case atStart => exact ⟨0, Nat.zero_le _, rfl, by simpa using hJs, hB⟩
      case round =>
        obtain ⟨m, hm, rfl, hJm, hBm⟩ := hrel
        by_cases hml : m < cl.length
        · have hlen : (pk ++ cl.take m).length < (flashL t.data.toList).length := by
            have h1 := (HP.out (m + 1)).length_le
            simp only [List.length_append, List.length_take] at h1 ⊢; omega
          obtain ⟨fn, tmps, assign, body, hy, hR⟩ := HY.out (pk ++ cl.take m) ((B cl)[m]'(by simpa using hml)) _ hJm hlen
          have HS := Lib.hid (take_snocL cl m hml)
          clear hlen
          gi_wp2
          refine ⟨(fun h => by cases h), ?_⟩
          refine hR.mono ?_
          rintro e W3 (⟨rfl, hJ3, hk3⟩ | ⟨rfl, hJx3⟩)
          · gi_wp2
            go_roundw
            case rel => exact ⟨m + 1, by omega, by go_num, by rw [HS.out, ← List.append_assoc]; exact hJ3, hBm.trans hk3⟩
            case measure => simp [intOf]; omega
          · gi_wp2
            refine bodyPost_ret (results_none rfl _ _ _) rfl ?_
            exact ⟨⟨_, rfl⟩, .inr ⟨_, by rw [List.append_assoc, ← HS.out]; exact HP.out (m + 1), hJx3⟩⟩
        · have hm' : cl.take m = cl := List.take_of_length_le (by omega)
          rw [hm'] at hJm
          have hlen : (pk ++ cl).length < (flashL t.data.toList).length := by
            have h1 := HQ.out.length_le
            simp only [List.length_append, List.length_cons, List.length_nil] at h1 ⊢; omega
          obtain ⟨fn, tmps, assign, body, hy, hR⟩ := HY.out (pk ++ cl) 47 _ hJm hlen
          rw [show (((47 : UInt8).toNat : Nat) : Int) = 47 from rfl] at hy
          clear hlen hm'
          gi_wp2
          refine ⟨(fun h => by cases h), ?_⟩
          refine hR.mono ?_
          rintro e W3 (⟨rfl, hJ3, hk3⟩ | ⟨rfl, hJx3⟩)
          · gi_wp2
            go_roundw
            case rel => exact ⟨k + 1, by omega, by go_num, by rw [HT.out, ← List.append_assoc]; exact hJ3, hBm.trans hk3⟩
            case measure => simp [intOf]; omega
          · gi_wp2
            refine bodyPost_ret (results_none rfl _ _ _) rfl ?_
            exact ⟨⟨_, rfl⟩, .inr ⟨_, by rw [List.append_assoc]; exact HQ.out, hJx3⟩⟩
    · rw [take_all hlt] at hJs
      gi_wp2
      go_end0
      exact ⟨⟨_, rfl⟩, .inl ⟨_, rfl, hJs⟩⟩

theorem flashes1_stops (n : Nat) (Bn : Nat) (t : ByteArray) (n₀ : Nat) (w : World) (hn : n₀ ≤ w.heap.size) (hBn : Bn < n₀) (hg : 0 < n₀) (ht : t.size ≤ 100)
    (hcell : w.cell? ⟨Bn, 0, none⟩ = some (.string t)) (hC : Codes w) (hv : ∀ k : Nat, k < t.size → 0 ≤ valI (bat t k)) :
    SeqStopsK Fence.wide n Tryz.prog 92 #[.pointer (some ⟨Bn, 0, none⟩)] (fun x : UInt8 => #[.int .u8 x.toNat]) (Below n₀) (fun xs => xs = flashL t.data.toList) (fun pre => pre <+: flashL t.data.toList) (flashL t.data.toList).length w :=
  (flashes1_seq n Bn t ht hv).toK (fun _ _ h => SameOn.of_below h (by simp; exact ⟨hBn, hg⟩)) fun _ hW =>
    ⟨(hW.cell (p := ⟨Bn, 0, none⟩) (by simp; omega)).trans hcell, fun v h => (hW.cell (p := ⟨_, v, none⟩) (by simp; omega)).trans (hC v h)⟩
end Go.Proofs.YtjbdmlpadoiicaaGreatDoor

/-! slices.Collect of bytes, against whatever iterator; Signal. -/
namespace Go.Proofs.YtjbdmlpadoiicaaGreatDoor
open Go.RowKit Go.Shelf
attribute [local go_sem] Oper.semAt_some

def encU (x : UInt8) : Value := .int .u8 x.toNat
theorem info_u8 : (Tryz.prog.info? 5).map (fun i => (i.zero, i.size, i.bytes)) = some (some (.int .u8 0), 1, 1) := by kernel_rfl

theorem appendSeq8 (n : Nat) (hn : 2 ≤ n) {S Sp : List UInt8 → Prop} {N : Nat} (hN : N ≤ 1000000) (g : Nat) (lb : Array Value) (eg : ∀ args w, (callFunc g args).run Tryz.prog w = .ok (.enter g args) w) (w : World)
    (hseq : SeqStopsK Fence.wide (n - 1) Tryz.prog g lb (fun x : UInt8 => #[.int .u8 x.toNat]) (Below w.heap.size) S Sp N w) :
    CallsIn Fence.wide n Tryz.prog 91 #[.slice none 0 0, .func (.func g) #[] lb] w fun e w' =>
      ∃ (v : Value) (xs : List UInt8), e = .returned v ∧ S xs ∧ w'.ownsRow w.heap.size 5 1 v xs.length (xs.map encU) ∧ (v = .slice none 0 0 ↔ xs = []) ∧ Below w.heap.size w w' := by
  have h1 : 1 ≤ n := by omega
  obtain ⟨i0, hi, hz0, hz1, hz2⟩ := info_parts info_u8
  refine callsIn_of_wp_marks Tryz.func91 rfl trivial ?_ rfl
  simp only [Tryz.ntmps91, List.size_toArray, List.length_cons, List.length_nil, Nat.reduceAdd, Nat.reduceSub, Array.replicate_succ, Array.replicate_zero, List.push_toArray, List.append_toArray, List.nil_append, List.cons_append]
  gi_wp2
  have bO := Boxed.new w 105 (.slice none 0 0)
  have hB0 : Below w.heap.size w (w.alloc (.cells #[.slice none 0 0] 105)) := (Below.refl _ w).alloc (Nat.le_refl _) _
  refine wpIn_rangeFunc_ownG rfl h1 (gf := g) (lb := lb) rfl trivial eg hseq belowK_t (belowK_b (by simp)) hB0 (fun _ => rfl)
    (fun pre W => (∃ v, Boxed W w.heap.size 105 v ∧ W.ownsRow w.heap.size 5 1 v pre.length (pre.map encU) ∧ (v = .slice none 0 0 ↔ pre = [])) ∧ Below w.heap.size w W)
    (fun _ _ _ => False)
    (OwnFrom.and (Own.from (holdsRow_own w.heap.size w.heap.size 105 5 1 (fun pre => pre.length) (fun pre => pre.map encU) (fun pre v => v = .slice none 0 0 ↔ pre = [])) _) (ownFrom_below (Nat.le_refl _) (by simp)))
    (fun _ _ _ _ _ hs _ _ => hs)
    ⟨⟨_, bO, World.ownsRow_nil _ _ _ _, by simp⟩, hB0⟩
    (fun x => { tmps := #[.slice none 0 0, .func (.func g) #[] lb, .pointer (some ⟨w.heap.size, 0, none⟩), undef, .slice none 0 0, .int .u8 x.toNat, .func (.func g) #[] lb, .int .u8 x.toNat, undef, undef, undef, undef, undef], defers := [] }) ?assign ?body ?done ?stop
  case assign =>
    intro l x W K hK
    gi_wp2
    exact hK
  case body =>
    rintro l pre x W ⟨⟨v, hv, hrow, hnil⟩, hB⟩ hlt
    have hc := hv.cell
    gi_wp2_with (gi_at_builtin; refine wpListIn_append_own _ rfl _ _ 105 rfl w.heap.size 5 i0 (.int .u8 0) 1 1 Tryz.underlying105 hi hz0 hz1 hz2 rfl (by decide) _ _ _ rfl (hrow.alloc _) ⟨W.heap.size, 0, none⟩ 1 1 [.int .u8 x.toNat] rfl rfl (cell_one_new _ _ _) (by simp [Value.oneCell']) (by unfold maxLen; omega) (by omega) (by have := hB.size; simp; omega) ?_; intro v' w1 hown' hgrow _; obtain ⟨g', cap', rfl⟩ := ownsRow_succ hown'; obtain ⟨hv1, hv2, hr2, hk2, hb2⟩ := hv.appended (by decide) hrow hB.size (Nat.le_refl _) hown' hgrow; have hc1 := hv1.cell; have hf1 := hv1.frozen)
    exact ⟨hk2.from _, hb2, ⟨_, hv2, by simpa [encU] using hr2, by simp⟩, hB.trans hb2⟩
  case done =>
    rintro D ys W hD hS ⟨⟨v, hv, hrow, hnil⟩, hB⟩ hK
    have hc := hv.cell
    gi_wp2
    refine ⟨by simp, .inl ⟨_, _, rfl, run_takeDeferred hK, ?_⟩⟩
    exact ⟨_, results_tmp rfl _ _ _, v, ys, rfl, hS, ownsRow_putObj hrow _ hK rfl, hnil, hB.trans (belowK_b (w := w) (Nat.le_refl _) W D _ _ (by simp at hD; omega) hK rfl rfl)⟩
  case stop =>
    rintro D c pre W _ _ h _
    exact h.elim

theorem collect8 (n : Nat) (hn : 3 ≤ n) {S Sp : List UInt8 → Prop} {N : Nat} (hN : N ≤ 1000000) (g : Nat) (lb : Array Value) (eg : ∀ args w, (callFunc g args).run Tryz.prog w = .ok (.enter g args) w) (w : World)
    (hseq : SeqStopsK Fence.wide (n - 1 - 1) Tryz.prog g lb (fun x : UInt8 => #[.int .u8 x.toNat]) (Below w.heap.size) S Sp N w) :
    CallsIn Fence.wide n Tryz.prog 58 #[.func (.func g) #[] lb] w fun e w' =>
      ∃ (v : Value) (xs : List UInt8), e = .returned v ∧ S xs ∧ w'.ownsRow w.heap.size 5 1 v xs.length (xs.map encU) ∧ (v = .slice none 0 0 ↔ xs = []) ∧ Below w.heap.size w w' := by
  refine callsIn_of_wp Tryz.func58 rfl trivial ?_ rfl
  simp only [Tryz.ntmps58, List.size_toArray, List.length_cons, List.length_nil, Nat.reduceAdd, Nat.reduceSub, Array.replicate_succ, Array.replicate_zero, List.push_toArray, List.append_toArray, List.nil_append, List.cons_append]
  gi_wp2_with (refine ⟨trivial, (fun h => by cases h), ?_⟩; gi_at_call 91; refine (appendSeq8 (n - 1) (by omega) hN g lb eg _ hseq).mono ?_; rintro e w' ⟨v, xs, rfl, hS, hrow, hnil, hb⟩)
  go_ret
  exact ⟨v, xs, rfl, hS, hrow, hnil, hb⟩

theorem strOfNums_B (xs : List UInt8) : strOfNums (xs.map fun x => (x.toNat : Int)) = B xs := by
  unfold strOfNums B
  rw [List.map_map]
  congr 2
  exact List.map_id'' (fun x => by simp) xs
theorem conv_row {w : World} {base n : Nat} {v : Value} {xs : List UInt8} (h : w.ownsRow base 5 1 v n (xs.map encU)) : (convert 105 9 v).run Tryz.prog w = .ok (.string (B xs)) w := by
  have hl : xs.length = n := by simpa using h.1
  rcases h.2 with ⟨rfl, rfl⟩ | ⟨g, cap, cur, rfl, _⟩
  · obtain rfl : xs = [] := List.length_eq_zero_iff.1 hl
    rw [run_convert_bytes_nil w _ _ Tryz.underlying105 Tryz.underlying5 0 0 _ Tryz.underlying9]; rfl
  · rw [← strOfNums_B]
    refine run_convert_bytes_arg w _ _ Tryz.underlying105 Tryz.underlying5 g 0 n cap _ (by simpa using hl) (fun i hi => ?_) _ Tryz.underlying9
    have := h.cells (g := g) rfl i (encU (xs.getD i 0)) (by simp [List.getElem?_eq_getElem (show i < xs.length by omega)])
    have e : (⟨g, 0, none⟩ : Addr).add i = ⟨g, 0 + i, none⟩ := by unfold Addr.add; split <;> simp_all
    rw [e] at this
    rw [this]; simp [encU, List.getElem?_eq_getElem (show i < xs.length by omega)]

/-! ### The signal of a word -/
def textL (l : List UInt8) : List UInt8 := aheadL l ++ l ++ behindL l
def signalL (l : List UInt8) : List UInt8 := flashL (textL l) ++ [47]
def signalV (l : List UInt8) : Value := if wordB l then .tuple #[.string (B (signalL l)), .int .i64 0] else .tuple #[.string ⟨#[]⟩, .int .i64 7]

theorem valI_sign (v : Int) : ∀ c ∈ signL v, 0 ≤ valI c := by
  intro c hc
  have : ∀ k : Nat, 0 ≤ valI (signsL.getD k 0) ∨ 29 ≤ k := fun k => by
    by_cases hk : k < 29
    · have : ∀ k : Fin 29, 0 ≤ valI (signsL.getD k 0) := by decide +kernel
      exact .inl (this ⟨k, hk⟩)
    · exact .inr (by omega)
  simp only [signL, List.mem_singleton] at hc
  rcases this (v % 29).toNat with h | h
  · rw [hc]; exact h
  · have := Int.emod_lt_of_pos v (show (0 : Int) < 29 by decide); omega
theorem valI_text {l : List UInt8} (h : wordB l = true) : ∀ c ∈ textL l, 0 ≤ valI c := by
  intro c hc
  simp only [textL, aheadL, behindL, List.mem_append] at hc
  obtain ⟨_, _, ha⟩ := word_parts h
  rcases hc with (hc | hc) | hc | hc
  · exact valI_sign _ c hc
  · have := valI_let_bd c (List.all_eq_true.1 ha c hc); omega
  · exact valI_sign _ c hc
  · exact valI_sign _ c hc
theorem flashL_length (t : List UInt8) : (flashL t).length ≤ 6 * t.length := by
  induction t with
  | nil => simp [flashL]
  | cons c t ih =>
    have h5 := codeL_length (valI c).toNat
    have : flashL (c :: t) = codeL (valI c).toNat ++ [47] ++ flashL t := by simp [flashL]
    rw [this]; simp only [List.length_append, List.length_cons, List.length_nil]; omega
theorem textL_length (l : List UInt8) : (textL l).length = l.length + 3 := by simp [textL, aheadL, behindL]; omega

theorem flashes_any (t : ByteArray) (w : World) :
    Calls Tryz.prog 59 #[.string t] w fun e w' => e = .returned (.func (.func 92) #[] #[.pointer (some ⟨w.heap.size, 0, none⟩)]) ∧ w.alloc (.cells #[.string t] 9) = w' := by
  have hmf : ∀ (fn : Fn) (first cap : Array Value) (w : World), (Instr.makeFunc fn first cap).run Tryz.prog w = .ok (.func fn first cap) w := fun _ _ _ _ => rfl
  go_enter Tryz.func59, Tryz.ntmps59
  go_wp2
  go_ret
  exact ⟨rfl, rfl⟩

set_option maxHeartbeats 1000000 in
theorem signal_any (s : ByteArray) (w : World) (hs : s.size ≤ maxLen) (hC : Codes w) (hg : 0 < w.heap.size) :
    Calls Tryz.prog 22 #[.string s] w fun e w' => e = .returned (signalV s.data.toList) ∧ Below w.heap.size w w' := by
  by_cases hw : wordB s.data.toList = true
  · obtain ⟨h1, h2, h3⟩ := word_parts hw
    have h2' : s.size ≤ 10 := h2
    have HT : Hid (B (aheadL s.data.toList) ++ s ++ B (behindL s.data.toList) = B (textL s.data.toList)) := Lib.hid (by
      apply ext_L; simp [textL, ByteArray.data_append])
    have HV : Hid (∀ k : Nat, k < (B (textL s.data.toList)).size → 0 ≤ valI (bat (B (textL s.data.toList)) k)) := Lib.hid (fun k hk => by
      rw [bat_B, List.getD_eq_getElem?_getD, List.getElem?_eq_getElem (by simpa using hk)]
      exact valI_text hw _ (List.getElem_mem _))
    have HN := Lib.hid (flashL_length (textL s.data.toList))
    have HL := Lib.hid (textL_length s.data.toList)
    have HS := Lib.hid (size_toList s)
    have HC := Lib.hid hC
    have la : (aheadL s.data.toList).length = 1 := rfl
    have lb : (behindL s.data.toList).length = 2 := rfl
    have Hw := Lib.hid hw
    have HA := Lib.hid la; have HB := Lib.hid lb
    clear hw h1 h2 h3 hC la lb
    obtain ⟨ah, ea⟩ : ∃ ah, aheadL s.data.toList = ah := ⟨_, rfl⟩
    obtain ⟨bh, eb⟩ : ∃ bh, behindL s.data.toList = bh := ⟨_, rfl⟩
    have EV : Hid (checksV s.data.toList = .tuple #[.string (B ah), .string (B bh), .int .i64 0]) := Lib.hid (by simp [checksV, Hw.out, ea, eb])
    rw [ea] at HT HA
    rw [eb] at HT HB
    clear ea eb
    go_enter Tryz.func22, Tryz.ntmps22
    go_wp2_with fail
    refine (checks_any _ _ hs).mono ?_
    rintro e w1 ⟨rfl, rfl⟩
    rw [EV.out]
    have la := HA.out; have lb := HB.out
    go_wp2_with fail
    refine (flashes_any _ _).mono ?_
    rintro e w1 ⟨rfl, rfl⟩
    rw [HT.out]
    go_wp2_with fail
    have hb1 : Below w.heap.size w (w.alloc (.cells #[.string (B (textL s.data.toList))] 9)) := (Below.refl _ w).alloc (Nat.le_refl _) _
    have hN : (flashL (textL s.data.toList)).length ≤ 100 := by have := HN.out; have := HL.out; have := HS.out; omega
    obtain ⟨i0, hi, hz0, hz1, hz2⟩ := info_parts info_u8
    refine (callsIn_wide.1 (collect8 3 (Nat.le_refl _) (N := (flashL (textL s.data.toList)).length) (by omega) 92 #[.pointer (some ⟨w.heap.size, 0, none⟩)] (enters_of Tryz.func92 (by kernel_rfl) rfl) (w.alloc (.cells #[.string (B (textL s.data.toList))] 9)) (S := fun xs => xs = flashL (textL s.data.toList)) (Sp := fun pre => pre <+: flashL (textL s.data.toList))
      (by
        have := flashes1_stops (3 - 1 - 1) w.heap.size (B (textL s.data.toList)) (w.alloc (.cells #[.string (B (textL s.data.toList))] 9)).heap.size (w.alloc (.cells #[.string (B (textL s.data.toList))] 9)) (Nat.le_refl _) (by simp) (by simp <;> omega)
          (by rw [size_B]; have := HL.out; have := HS.out; omega) (Boxed.new w _ _).cell (fun v h => (hb1.cell (p := ⟨_, v, none⟩) hg).trans (HC.out v h)) HV.out
        simpa using this))).mono ?_
    rintro e w1 ⟨v, xs, rfl, hxs, hrow, hnil, hb⟩
    have hlen : xs.length ≤ 100 := by rw [hxs]; exact hN
    have HX := Lib.hid hxs
    clear hxs hN hnil
    go_wp2_with (at_builtin; refine wpList_append_own _ rfl _ _ 105 rfl (w.alloc (.cells #[.string (B (textL s.data.toList))] 9)).heap.size 5 i0 (.int .u8 0) 1 1 Tryz.underlying105 hi hz0 hz1 hz2 rfl (by decide) _ _ _ rfl (hrow.alloc _) ⟨w1.heap.size, 0, none⟩ 1 1 [.int .u8 47] rfl rfl (cell_one_new _ _ _) (by simp [Value.oneCell']) (by unfold maxLen; omega) (by omega) (by have := hb.size; simp at this ⊢; omega) ?_; intro v' w2 hown' hgrow _; have hcv := conv_row (xs := xs ++ [47]) (by simpa [encU] using hown'))
    go_ret2
    refine ⟨ret_val ?_, ?_⟩
    · simp only [signalV, Hw.out, if_true, signalL, HX.out]; rfl
    · have hz := hb.size
      simp at hz
      have h1 : Below w.heap.size w w1 := hb1.trans (hb.mono (by simp))
      exact (h1.alloc (by omega) _).grown hgrow (by simp; omega) (fun k e => by have := (hrow.lt k e).1; simp at this; omega)
  · have EV : Hid (checksV s.data.toList = .tuple #[.string ⟨#[]⟩, .string ⟨#[]⟩, .int .i64 7]) := Lib.hid (by simp [checksV, hw])
    have Hw := Lib.hid hw
    clear hw
    go_enter Tryz.func22, Tryz.ntmps22
    go_wp2_with fail
    refine (checks_any _ _ hs).mono ?_
    rintro e w1 ⟨rfl, rfl⟩
    rw [EV.out]
    go_wp2
    go_ret2
    exact ⟨ret_val (by simp only [signalV]; rw [if_neg Hw.out]; rfl), Below.refl _ _⟩
end Go.Proofs.YtjbdmlpadoiicaaGreatDoor
