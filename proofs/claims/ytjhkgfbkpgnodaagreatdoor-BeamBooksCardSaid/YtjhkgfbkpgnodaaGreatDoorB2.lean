/- slices.Collect of bytes, against whatever iterator; Signal. -/
import Derived.Test.YtjhkgfbkpgnodaaGreatDoorB1
import Derived.Test.YtjhkgfbkpgnodaaGreatDoorA1
namespace Go.Proofs.YtjhkgfbkpgnodaaGreatDoor
open Go.RowKit Go.Shelf
attribute [local go_sem] Oper.semAt_some

def encU (x : UInt8) : Value := .int .u8 x.toNat
theorem info_u8 : (Tryz.prog.info? 5).map (fun i => (i.zero, i.size, i.bytes)) = some (some (.int .u8 0), 1, 1) := by kernel_rfl

theorem appendSeq8 (n : Nat) (hn : 2 ≤ n) {S Sp : List UInt8 → Prop} {N : Nat} (hN : N ≤ 1000000) (g : Nat) (lb : Array Value) (eg : ∀ args w, (callFunc g args).run Tryz.prog w = .ok (.enter g args) w) (w : World)
    (hseq : SeqStopsK Fence.wide (n - 1) Tryz.prog g lb (fun x : UInt8 => #[.int .u8 x.toNat]) (Below w.heap.size) S Sp N w) :
    CallsIn Fence.wide n Tryz.prog 91 #[.slice none 0 0, .func (.func g) #[] lb] w fun e w' =>
      ∃ (v : Value) (xs : List UInt8), e = .returned v ∧ S xs ∧ w'.ownsRow w.heap.size 5 1 v xs.length (xs.map encU) ∧ (v = .slice none 0 0 ↔ xs = []) ∧ Below w.heap.size w w' := by
  have h1 : 1 ≤ n := by omega
  obtain ⟨i0, hi, hz0, hz1, hz2⟩ := info_parts info_u8
  refine callsIn_of_wp_marks Tryz.func91 rfl trivial ?_ rfl
  simp only [Tryz.ntmps91, List.size_toArray, List.length_cons, List.length_nil, Nat.reduceAdd, Nat.reduceSub, Array.replicate_succ, Array.replicate_zero, List.push_toArray, List.append_toArray, List.nil_append, List.cons_append]
  gi_wp2
  have bO := Boxed.new w 105 (.slice none 0 0)
  have hB0 : Below w.heap.size w (w.alloc (.cells #[.slice none 0 0] 105)) := (Below.refl _ w).alloc (Nat.le_refl _) _
  refine wpIn_rangeFunc_ownG rfl h1 (gf := g) (lb := lb) rfl trivial eg hseq belowK_t (belowK_b (by simp)) hB0 (fun _ => rfl)
    (fun pre W => (∃ v, Boxed W w.heap.size 105 v ∧ W.ownsRow w.heap.size 5 1 v pre.length (pre.map encU) ∧ (v = .slice none 0 0 ↔ pre = [])) ∧ Below w.heap.size w W)
    (fun _ _ _ => False)
    (OwnFrom.and (Own.from (holdsRow_own w.heap.size w.heap.size 105 5 1 (fun pre => pre.length) (fun pre => pre.map encU) (fun pre v => v = .slice none 0 0 ↔ pre = [])) _) (ownFrom_below (Nat.le_refl _) (by simp)))
    (fun _ _ _ _ _ hs _ _ => hs)
    ⟨⟨_, bO, World.ownsRow_nil _ _ _ _, by simp⟩, hB0⟩
    (fun x => { tmps := #[.slice none 0 0, .func (.func g) #[] lb, .pointer (some ⟨w.heap.size, 0, none⟩), undef, .slice none 0 0, .int .u8 x.toNat, .func (.func g) #[] lb, .int .u8 x.toNat, undef, undef, undef, undef, undef], defers := [] }) ?assign ?body ?done ?stop
  case assign =>
    intro l x W K hK
    gi_wp2
    exact hK
  case body =>
    rintro l pre x W ⟨⟨v, hv, hrow, hnil⟩, hB⟩ hlt
    have hc := hv.cell
    gi_wp2_with (gi_at_builtin; refine wpListIn_append_own _ rfl _ _ 105 rfl w.heap.size 5 i0 (.int .u8 0) 1 1 Tryz.underlying105 hi hz0 hz1 hz2 rfl (by decide) _ _ _ rfl (hrow.alloc _) ⟨W.heap.size, 0, none⟩ 1 1 [.int .u8 x.toNat] rfl rfl (cell_one_new _ _ _) (by simp [Value.oneCell']) (by unfold maxLen; omega) (by omega) (by have := hB.size; simp; omega) ?_; intro v' w1 hown' hgrow _; obtain ⟨g', cap', rfl⟩ := ownsRow_succ hown'; obtain ⟨hv1, hv2, hr2, hk2, hb2⟩ := hv.appended (by decide) hrow hB.size (Nat.le_refl _) hown' hgrow; have hc1 := hv1.cell; have hf1 := hv1.frozen)
    exact ⟨hk2.from _, hb2, ⟨_, hv2, by simpa [encU] using hr2, by simp⟩, hB.trans hb2⟩
  case done =>
    rintro D ys W hD hS ⟨⟨v, hv, hrow, hnil⟩, hB⟩ hK
    have hc := hv.cell
    gi_wp2
    refine ⟨by simp, .inl ⟨_, _, rfl, run_takeDeferred hK, ?_⟩⟩
    exact ⟨_, results_tmp rfl _ _ _, v, ys, rfl, hS, ownsRow_putObj hrow _ hK rfl, hnil, hB.trans (belowK_b (w := w) (Nat.le_refl _) W D _ _ (by simp at hD; omega) hK rfl rfl)⟩
  case stop =>
    rintro D c pre W _ _ h _
    exact h.elim

theorem collect8 (n : Nat) (hn : 3 ≤ n) {S Sp : List UInt8 → Prop} {N : Nat} (hN : N ≤ 1000000) (g : Nat) (lb : Array Value) (eg : ∀ args w, (callFunc g args).run Tryz.prog w = .ok (.enter g args) w) (w : World)
    (hseq : SeqStopsK Fence.wide (n - 1 - 1) Tryz.prog g lb (fun x : UInt8 => #[.int .u8 x.toNat]) (Below w.heap.size) S Sp N w) :
    CallsIn Fence.wide n Tryz.prog 58 #[.func (.func g) #[] lb] w fun e w' =>
      ∃ (v : Value) (xs : List UInt8), e = .returned v ∧ S xs ∧ w'.ownsRow w.heap.size 5 1 v xs.length (xs.map encU) ∧ (v = .slice none 0 0 ↔ xs = []) ∧ Below w.heap.size w w' := by
  refine callsIn_of_wp Tryz.func58 rfl trivial ?_ rfl
  simp only [Tryz.ntmps58, List.size_toArray, List.length_cons, List.length_nil, Nat.reduceAdd, Nat.reduceSub, Array.replicate_succ, Array.replicate_zero, List.push_toArray, List.append_toArray, List.nil_append, List.cons_append]
  gi_wp2_with (refine ⟨trivial, (fun h => by cases h), ?_⟩; gi_at_call 91; refine (appendSeq8 (n - 1) (by omega) hN g lb eg _ hseq).mono ?_; rintro e w' ⟨v, xs, rfl, hS, hrow, hnil, hb⟩)
  go_ret
  exact ⟨v, xs, rfl, hS, hrow, hnil, hb⟩

theorem strOfNums_B (xs : List UInt8) : strOfNums (xs.map fun x => (x.toNat : Int)) = B xs := by
  unfold strOfNums B
  rw [List.map_map]
  congr 2
  exact List.map_id'' (fun x => by simp) xs
theorem conv_row {w : World} {base n : Nat} {v : Value} {xs : List UInt8} (h : w.ownsRow base 5 1 v n (xs.map encU)) : (convert 105 9 v).run Tryz.prog w = .ok (.string (B xs)) w := by
  have hl : xs.length = n := by simpa using h.1
  rcases h.2 with ⟨rfl, rfl⟩ | ⟨g, cap, cur, rfl, _⟩
  · obtain rfl : xs = [] := List.length_eq_zero_iff.1 hl
    rw [run_convert_bytes_nil w _ _ Tryz.underlying105 Tryz.underlying5 0 0 _ Tryz.underlying9]; rfl
  · rw [← strOfNums_B]
    refine run_convert_bytes_arg w _ _ Tryz.underlying105 Tryz.underlying5 g 0 n cap _ (by simpa using hl) (fun i hi => ?_) _ Tryz.underlying9
    have := h.cells (g := g) rfl i (encU (xs.getD i 0)) (by simp [List.getElem?_eq_getElem (show i < xs.length by omega)])
    have e : (⟨g, 0, none⟩ : Addr).add i = ⟨g, 0 + i, none⟩ := by unfold Addr.add; split <;> simp_all
    rw [e] at this
    rw [this]; simp [encU, List.getElem?_eq_getElem (show i < xs.length by omega)]

/-! ### The signal of a word -/
def textL (l : List UInt8) : List UInt8 := aheadL l ++ l ++ behindL l
def signalL (l : List UInt8) : List UInt8 := flashL (textL l) ++ [47]
def signalV (l : List UInt8) : Value := if wordB l then .tuple #[.string (B (signalL l)), .int .i64 0] else .tuple #[.string ⟨#[]⟩, .int .i64 7]

theorem valI_sign (v : Int) : ∀ c ∈ signL v, 0 ≤ valI c := by
  intro c hc
  have : ∀ k : Nat, 0 ≤ valI (signsL.getD k 0) ∨ 29 ≤ k := fun k => by
    by_cases hk : k < 29
    · have : ∀ k : Fin 29, 0 ≤ valI (signsL.getD k 0) := by decide +kernel
      exact .inl (this ⟨k, hk⟩)
    · exact .inr (by omega)
  simp only [signL, List.mem_singleton] at hc
  rcases this (v % 29).toNat with h | h
  · rw [hc]; exact h
  · have := Int.emod_lt_of_pos v (show (0 : Int) < 29 by decide); omega
theorem valI_text {l : List UInt8} (h : wordB l = true) : ∀ c ∈ textL l, 0 ≤ valI c := by
  intro c hc
  simp only [textL, aheadL, behindL, List.mem_append] at hc
  obtain ⟨_, _, ha⟩ := word_parts h
  rcases hc with (hc | hc) | hc | hc
  · exact valI_sign _ c hc
  · have := valI_let_bd c (List.all_eq_true.1 ha c hc); omega
  · exact valI_sign _ c hc
  · exact valI_sign _ c hc
theorem flashL_length (t : List UInt8) : (flashL t).length ≤ 6 * t.length := by
  induction t with
  | nil => simp [flashL]
  | cons c t ih =>
    have h5 := codeL_length (valI c).toNat
    have : flashL (c :: t) = codeL (valI c).toNat ++ [47] ++ flashL t := by simp [flashL]
    rw [this]; simp only [List.length_append, List.length_cons, List.length_nil]; omega
theorem textL_length (l : List UInt8) : (textL l).length = l.length + 3 := by simp [textL, aheadL, behindL]; omega

theorem flashes_any (t : ByteArray) (w : World) :
    Calls Tryz.prog 59 #[.string t] w fun e w' => e = .returned (.func (.func 92) #[] #[.pointer (some ⟨w.heap.size, 0, none⟩)]) ∧ w.alloc (.cells #[.string t] 9) = w' := by
  have hmf : ∀ (fn : Fn) (first cap : Array Value) (w : World), (Instr.makeFunc fn first cap).run Tryz.prog w = .ok (.func fn first cap) w := fun _ _ _ _ => rfl
  go_enter Tryz.func59, Tryz.ntmps59
  go_wp2
  go_ret
  exact ⟨rfl, rfl⟩

set_option maxHeartbeats 1000000 in
theorem signal_any (s : ByteArray) (w : World) (hs : s.size ≤ maxLen) (hC : Codes w) (hg : 0 < w.heap.size) :
    Calls Tryz.prog 22 #[.string s] w fun e w' => e = .returned (signalV s.data.toList) ∧ Below w.heap.size w w' := by
  by_cases hw : wordB s.data.toList = true
  · obtain ⟨h1, h2, h3⟩ := word_parts hw
    have h2' : s.size ≤ 10 := h2
    have HT : Hid (B (aheadL s.data.toList) ++ s ++ B (behindL s.data.toList) = B (textL s.data.toList)) := Lib.hid (by
      apply ext_L; simp [textL, ByteArray.data_append])
    have HV : Hid (∀ k : Nat, k < (B (textL s.data.toList)).size → 0 ≤ valI (bat (B (textL s.data.toList)) k)) := Lib.hid (fun k hk => by
      rw [bat_B, List.getD_eq_getElem?_getD, List.getElem?_eq_getElem (by simpa using hk)]
      exact valI_text hw _ (List.getElem_mem _))
    have HN := Lib.hid (flashL_length (textL s.data.toList))
    have HL := Lib.hid (textL_length s.data.toList)
    have HS := Lib.hid (size_toList s)
    have HC := Lib.hid hC
    have la : (aheadL s.data.toList).length = 1 := rfl
    have lb : (behindL s.data.toList).length = 2 := rfl
    have Hw := Lib.hid hw
    have HA := Lib.hid la; have HB := Lib.hid lb
    clear hw h1 h2 h3 hC la lb
    obtain ⟨ah, ea⟩ : ∃ ah, aheadL s.data.toList = ah := ⟨_, rfl⟩
    obtain ⟨bh, eb⟩ : ∃ bh, behindL s.data.toList = bh := ⟨_, rfl⟩
    have EV : Hid (checksV s.data.toList = .tuple #[.string (B ah), .string (B bh), .int .i64 0]) := Lib.hid (by simp [checksV, Hw.out, ea, eb])
    rw [ea] at HT HA
    rw [eb] at HT HB
    clear ea eb
    go_enter Tryz.func22, Tryz.ntmps22
    go_wp2_with fail
    refine (checks_any _ _ hs).mono ?_
    rintro e w1 ⟨rfl, rfl⟩
    rw [EV.out]
    have la := HA.out; have lb := HB.out
    go_wp2_with fail
    refine (flashes_any _ _).mono ?_
    rintro e w1 ⟨rfl, rfl⟩
    rw [HT.out]
    go_wp2_with fail
    have hb1 : Below w.heap.size w (w.alloc (.cells #[.string (B (textL s.data.toList))] 9)) := (Below.refl _ w).alloc (Nat.le_refl _) _
    have hN : (flashL (textL s.data.toList)).length ≤ 100 := by have := HN.out; have := HL.out; have := HS.out; omega
    obtain ⟨i0, hi, hz0, hz1, hz2⟩ := info_parts info_u8
    refine (callsIn_wide.1 (collect8 3 (Nat.le_refl _) (N := (flashL (textL s.data.toList)).length) (by omega) 92 #[.pointer (some ⟨w.heap.size, 0, none⟩)] (enters_of Tryz.func92 (by kernel_rfl) rfl) (w.alloc (.cells #[.string (B (textL s.data.toList))] 9)) (S := fun xs => xs = flashL (textL s.data.toList)) (Sp := fun pre => pre <+: flashL (textL s.data.toList))
      (by
        have := flashes1_stops (3 - 1 - 1) w.heap.size (B (textL s.data.toList)) (w.alloc (.cells #[.string (B (textL s.data.toList))] 9)).heap.size (w.alloc (.cells #[.string (B (textL s.data.toList))] 9)) (Nat.le_refl _) (by simp) (by simp <;> omega)
          (by rw [size_B]; have := HL.out; have := HS.out; omega) (Boxed.new w _ _).cell (fun v h => (hb1.cell (p := ⟨_, v, none⟩) hg).trans (HC.out v h)) HV.out
        simpa using this))).mono ?_
    rintro e w1 ⟨v, xs, rfl, hxs, hrow, hnil, hb⟩
    have hlen : xs.length ≤ 100 := by rw [hxs]; exact hN
    have HX := Lib.hid hxs
    clear hxs hN hnil
    go_wp2_with (at_builtin; refine wpList_append_own _ rfl _ _ 105 rfl (w.alloc (.cells #[.string (B (textL s.data.toList))] 9)).heap.size 5 i0 (.int .u8 0) 1 1 Tryz.underlying105 hi hz0 hz1 hz2 rfl (by decide) _ _ _ rfl (hrow.alloc _) ⟨w1.heap.size, 0, none⟩ 1 1 [.int .u8 47] rfl rfl (cell_one_new _ _ _) (by simp [Value.oneCell']) (by unfold maxLen; omega) (by omega) (by have := hb.size; simp at this ⊢; omega) ?_; intro v' w2 hown' hgrow _; have hcv := conv_row (xs := xs ++ [47]) (by simpa [encU] using hown'))
    go_ret2
    refine ⟨ret_val ?_, ?_⟩
    · simp only [signalV, Hw.out, if_true, signalL, HX.out]; rfl
    · have hz := hb.size
      simp at hz
      have h1 : Below w.heap.size w w1 := hb1.trans (hb.mono (by simp))
      exact (h1.alloc (by omega) _).grown hgrow (by simp; omega) (fun k e => by have := (hrow.lt k e).1; simp at this; omega)
  · have EV : Hid (checksV s.data.toList = .tuple #[.string ⟨#[]⟩, .string ⟨#[]⟩, .int .i64 7]) := Lib.hid (by simp [checksV, hw])
    have Hw := Lib.hid hw
    clear hw
    go_enter Tryz.func22, Tryz.ntmps22
    go_wp2_with fail
    refine (checks_any _ _ hs).mono ?_
    rintro e w1 ⟨rfl, rfl⟩
    rw [EV.out]
    go_wp2
    go_ret2
    exact ⟨ret_val (by simp only [signalV]; rw [if_neg Hw.out]; rfl), Below.refl _ _⟩
end Go.Proofs.YtjhkgfbkpgnodaaGreatDoor
