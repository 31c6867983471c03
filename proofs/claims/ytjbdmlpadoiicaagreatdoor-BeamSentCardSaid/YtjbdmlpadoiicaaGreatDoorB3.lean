/- strings.SplitSeq at a separator of one byte; letters and Read of package beam. -/
import Derived.Test.YtjbdmlpadoiicaaGreatDoorB1
import Derived.Test.YtjbdmlpadoiicaaGreatDoorR0
set_option linter.unusedVariables false
set_option linter.unusedSimpArgs false
namespace Go.Proofs.YtjbdmlpadoiicaaGreatDoor
open Go.RowKit Go.Shelf
attribute [local go_sem] Oper.semAt_some

def splitB (c : UInt8) : List UInt8 → List (List UInt8)
  | [] => [[]]
  | b :: l => if b == c then [] :: splitB c l else (b :: (splitB c l).headD []) :: (splitB c l).tail

theorem splitB_ne (c : UInt8) (l : List UInt8) : splitB c l ≠ [] := by
  cases l with
  | nil => simp [splitB]
  | cons b l => simp only [splitB]; split <;> simp
theorem indexByte_lo (c : UInt8) : ∀ l : List UInt8, -1 ≤ Lib.indexByte l c
  | [] => by simp [Lib.indexByte]
  | b :: l => by
    have := indexByte_lo c l
    simp only [Lib.indexByte]; split <;> (try split) <;> omega
theorem indexByte_hi (c : UInt8) : ∀ l : List UInt8, Lib.indexByte l c < l.length
  | [] => by simp [Lib.indexByte]
  | b :: l => by
    have := indexByte_hi c l
    simp only [Lib.indexByte, List.length_cons]; split <;> (try split) <;> omega
theorem splitB_no (c : UInt8) : ∀ l : List UInt8, Lib.indexByte l c < 0 → splitB c l = [l]
  | [], _ => rfl
  | b :: l, h => by
    have lo := indexByte_lo c l
    by_cases hb : (b == c) = true
    · simp [Lib.indexByte, hb] at h
    · have hb' : (b == c) = false := by simpa using hb
      have hi : Lib.indexByte l c < 0 := by
        simp only [Lib.indexByte, hb', Bool.false_eq_true, if_false] at h
        split at h
        · simp_all
        · omega
      simp [splitB, hb', splitB_no c l hi]
theorem splitB_at (c : UInt8) : ∀ (l : List UInt8) (i : Nat), Lib.indexByte l c = i → splitB c l = l.take i :: splitB c (l.drop (i + 1))
  | [], i, h => by simp [Lib.indexByte] at h
  | b :: l, i, h => by
    have lo := indexByte_lo c l
    by_cases hb : (b == c) = true
    · simp only [Lib.indexByte, hb, if_true] at h
      obtain rfl : i = 0 := by omega
      simp [splitB, hb]
    · have hb' : (b == c) = false := by simpa using hb
      simp only [Lib.indexByte, hb', Bool.false_eq_true, if_false] at h
      split at h
      · omega
      · have hi : ¬ i = 0 := fun e => by subst e; simp at h; have : (Lib.indexByte l c == -1) = false := by simpa using ‹¬ (Lib.indexByte l c == -1) = true›
                                         simp at this; omega
        obtain ⟨j, rfl⟩ : ∃ j, i = j + 1 := ⟨i - 1, by omega⟩
        have hj : Lib.indexByte l c = j := by omega
        simp [splitB, hb', splitB_at c l j hj]

def strLen : Option Value → Nat
  | some (.string s) => s.size
  | _ => 0

/-- What the iterator's own step turns: the box of what is left. -/
def SplitIt (Bs : Nat) (A X : World) : Prop := ∃ s : ByteArray, X = A.setCell ⟨Bs, 0, none⟩ (.string s)

theorem splitSeq1_seq (n : Nat) (Bs Bp Bv : Nat) (c : UInt8) (l0 : List UInt8) (hsz : l0.length ≤ 1000000) (hp : Bs ≠ Bp) (hv : Bs ≠ Bv) :
    SeqC Tryz.prog n 134 #[.pointer (some ⟨Bp, 0, none⟩), .pointer (some ⟨Bs, 0, none⟩), .pointer (some ⟨Bv, 0, none⟩)] (fun x : List UInt8 => #[.string (B x)]) (SplitIt Bs) (SameOn [Bs, Bp, Bv]) (fun xs => xs = splitB c l0) (fun pre => pre <+: splitB c l0) (splitB c l0).length
      (fun W => W.cell? ⟨Bs, 0, none⟩ = some (.string (B l0)) ∧ W.frozen? ⟨Bs, 0, none⟩ = false ∧ W.cell? ⟨Bp, 0, none⟩ = some (.string (B [c])) ∧ W.cell? ⟨Bv, 0, none⟩ = some (.int .i64 0)) := by
  rintro l J Jx W ⟨hs, hf, hcp, hcv⟩ hJ hJx hY h0
  have HY := Lib.hid hY; have HJ := Lib.hid hJ; have HJx := Lib.hid hJx
  clear hY hJ hJx
  refine callsIn_of_wp Tryz.func134 rfl trivial ?_ rfl
  simp only [Tryz.ntmps134, List.size_toArray, List.length_cons, List.length_nil, Nat.reduceAdd, Nat.reduceSub, Array.replicate_succ, Array.replicate_zero, List.push_toArray, List.append_toArray, List.nil_append, List.cons_append]
  gi_wp2
  gi_loopw [7, 8] (fun _ _ wr => ∃ (pre : List (List UInt8)) (rest : List UInt8), rest.length ≤ 1000000 ∧ Hid (splitB c l0 = pre ++ splitB c rest) ∧ wr.cell? ⟨Bs, 0, none⟩ = some (.string (B rest)) ∧ wr.frozen? ⟨Bs, 0, none⟩ = false ∧ wr.cell? ⟨Bp, 0, none⟩ = some (.string (B [c])) ∧ wr.cell? ⟨Bv, 0, none⟩ = some (.int .i64 0) ∧ J pre wr)
    (fun _ _ wr => strLen (wr.cell? ⟨Bs, 0, none⟩))
  case atStart => exact ⟨[], l0, hsz, Lib.hid rfl, hs, hf, hcp, hcv, h0⟩
  case round =>
    obtain ⟨pre, rest, hrl, hsp, hs, hf, hcp, hcv, hJs⟩ := hrel
    have I1 : Hid (∀ (m : Nat) w, CallsIn Fence.wide m Tryz.prog 136 #[.string (B rest), .string (B [c])] w fun e w' => e = .returned (.int .i64 (Lib.indexByte rest c)) ∧ w = w') := Lib.hid fun m w =>
      callsIn_wide.2 ((Tryz.strings_Index_one (B rest) c w).mono fun e w' ⟨a, b⟩ => ⟨by simpa using a, b.symm⟩)
    have lo := indexByte_lo c rest
    have hi := indexByte_hi c rest
    by_cases hneg : Lib.indexByte rest c < 0
    · have HN := Lib.hid (splitB_no c rest hneg)
      have hlen : pre.length < (splitB c l0).length := by rw [hsp.out, HN.out]; simp
      obtain ⟨fn, tmps, assign, body, hy, hR⟩ := HY.out pre rest _ hJs hlen
      clear hlen
      gi_wp2_with (refine ⟨trivial, (fun h => by cases h), ?_⟩; gi_at_call 136; refine (I1.out _ _).mono ?_; rintro e w' ⟨rfl, rfl⟩)
      refine ⟨(fun h => by cases h), ?_⟩
      refine hR.mono ?_
      rintro e W3 (⟨rfl, hJ3, hk3⟩ | ⟨rfl, hJx3⟩)
      · gi_wp2
        go_end0
        exact ⟨⟨_, rfl⟩, .inl ⟨_, by rw [hsp.out, HN.out], hJ3⟩⟩
      · gi_wp2
        go_end0
        exact ⟨⟨_, rfl⟩, .inr ⟨_, ⟨[], by rw [hsp.out, HN.out]; simp⟩, hJx3⟩⟩
    · obtain ⟨i, hi'⟩ : ∃ i : Nat, Lib.indexByte rest c = i := ⟨(Lib.indexByte rest c).toNat, by omega⟩
      have HA := Lib.hid (splitB_at c rest i hi')
      rw [hi'] at I1 hi
      clear hi' hneg lo
      have hlen : pre.length < (splitB c l0).length := by rw [hsp.out, HA.out]; simp
      obtain ⟨fn, tmps, assign, body, hy, hR⟩ := HY.out pre (rest.take i) _ hJs hlen
      clear hlen
      have hir : i + 1 ≤ rest.length := by omega
      have e1 : (B rest).extract 0 i = B (rest.take i) := by apply ext_L; simp [ByteArray.data_extract]
      have e2 : (B rest).extract (i + 1) rest.length = B (rest.drop (i + 1)) := by
        apply ext_L; have := extract_tail (B rest) (i + 1); rw [size_B, L_B] at this; rw [this, L_B]
      gi_wp2_with (refine ⟨trivial, (fun h => by cases h), ?_⟩; gi_at_call 136; refine (I1.out _ _).mono ?_; rintro e w' ⟨rfl, rfl⟩)
      refine ⟨(fun h => by cases h), ?_⟩
      refine hR.mono ?_
      rintro e W3 (⟨rfl, hJ3, hk3⟩ | ⟨rfl, hJx3⟩)
      · have c1 : W3.cell? ⟨Bs, 0, none⟩ = some (.string (B rest)) := (hk3.cell (p := ⟨Bs, 0, none⟩) (by simp)).trans hs
        have c2 : W3.cell? ⟨Bp, 0, none⟩ = some (.string (B [c])) := (hk3.cell (p := ⟨Bp, 0, none⟩) (by simp)).trans hcp
        have c3 : W3.cell? ⟨Bv, 0, none⟩ = some (.int .i64 0) := (hk3.cell (p := ⟨Bv, 0, none⟩) (by simp)).trans hcv
        have c4 : W3.frozen? ⟨Bs, 0, none⟩ = false := (hk3.frozen (p := ⟨Bs, 0, none⟩) (by simp)).trans hf
        gi_wp2
        go_roundw
        case rel =>
          exact ⟨pre ++ [rest.take i], rest.drop (i + 1), by simp; omega, Lib.hid (by rw [hsp.out, HA.out]; simp), World.cell?_setCell_same _ _ _ c1, by rw [World.frozen?_setCell]; exact c4,
            by rw [World.cell?_setCell_other]; exact c2; simp [hp], by rw [World.cell?_setCell_other]; exact c3; simp [hv], HJ.out _ _ _ hJ3 ⟨_, rfl⟩⟩
        case measure =>
          rw [World.cell?_setCell_same _ _ _ c1, hs]
          simp [strLen]; omega
      · gi_wp2
        refine bodyPost_ret (results_none rfl _ _ _) rfl ?_
        exact ⟨⟨_, rfl⟩, .inr ⟨_, ⟨splitB c (rest.drop (i + 1)), by rw [hsp.out, HA.out]; simp⟩, hJx3⟩⟩
end Go.Proofs.YtjbdmlpadoiicaaGreatDoor

/-! Letter, letters and Read of package beam. -/
namespace Go.Proofs.YtjbdmlpadoiicaaGreatDoor
open Go.RowKit Go.Shelf
attribute [local go_sem] Oper.semAt_some

theorem splitSeq_any (s : ByteArray) (w : World) :
    Calls Tryz.prog 96 #[.string s, .string ⟨#[47]⟩] w fun e w' => e = .returned (.func (.func 134) #[] #[.pointer (some ⟨w.heap.size + 1, 0, none⟩), .pointer (some ⟨w.heap.size, 0, none⟩), .pointer (some ⟨w.heap.size + 2, 0, none⟩)]) ∧
      (((w.alloc (.cells #[.string s] 9)).alloc (.cells #[.string ⟨#[47]⟩] 9)).alloc (.cells #[.int .i64 0] 3)) = w' := by
  have hmf : ∀ (fn : Fn) (first cap : Array Value) (w : World), (Instr.makeFunc fn first cap).run Tryz.prog w = .ok (.func fn first cap) w := fun _ _ _ _ => rfl
  go_enter Tryz.func96, Tryz.ntmps96
  go_wp2
  go_ret
  exact ⟨rfl, rfl⟩

def letN (code : List UInt8) : Nat := codesL.findIdx (· == code)
def letterV (code : List UInt8) : Value := if letN code < 29 then .tuple #[.int .u8 (signsL.getD (letN code) 0).toNat, .bool true] else .tuple #[.int .u8 0, .bool false]

theorem letN_at (code : List UInt8) (k : Nat) (hk : k < 29) (h : ∀ j, j < k → codeL j ≠ code) (e : codeL k = code) : letN code = k := by
  unfold letN
  have hl : codesL.length = 29 := rfl
  rw [List.findIdx_eq (by omega)]
  refine ⟨?_, fun j hj => ?_⟩
  · simpa [codeL, List.getElem?_eq_getElem (show k < codesL.length by omega)] using e
  · have := h j hj
    simpa [codeL, List.getElem?_eq_getElem (show j < codesL.length by omega)] using this
theorem letN_no (code : List UInt8) (h : ∀ j, j < 29 → codeL j ≠ code) : ¬ letN code < 29 := by
  intro hlt
  have hl : codesL.length = 29 := rfl
  have := List.findIdx_getElem (xs := codesL) (p := (· == code)) (w := by rw [hl]; exact hlt)
  refine h (letN code) hlt ?_
  unfold letN at hlt ⊢
  simpa [codeL, List.getElem?_eq_getElem (show List.findIdx (· == code) codesL < codesL.length by omega)] using this

theorem signs_at (k : Nat) (h : k < 29) (w : World) : (Instr.index 9 (.string ⟨#[43, 97, 98, 99, 100, 101, 102, 103, 104, 105, 106, 107, 108, 109, 110, 111, 112, 113, 114, 115, 116, 117, 118, 119, 120, 121, 122, 42, 35]⟩) (.int .i64 k)).run Tryz.prog w = .ok (.int .u8 (signsL.getD k 0).toNat) w := by
  have e : (⟨#[43, 97, 98, 99, 100, 101, 102, 103, 104, 105, 106, 107, 108, 109, 110, 111, 112, 113, 114, 115, 116, 117, 118, 119, 120, 121, 122, 42, 35]⟩ : ByteArray) = B signsL := rfl
  rw [e]
  have hk : k < (B signsL).size := by simpa [signsL] using h
  have := bat_eq (B signsL) k hk
  rw [bat_B] at this
  rw [← this, run_index_string _ _ _ _ _ Tryz.underlying9, dif_pos ⟨by omega, by rw [size_B]; exact Int.ofNat_lt.2 (by simpa [signsL] using h)⟩]
  simp

set_option maxRecDepth 100000 in
theorem letter_any (code : ByteArray) (w : World) (hC : Codes w) :
    Calls Tryz.prog 97 #[.string code] w fun e w' => e = .returned (letterV code.data.toList) ∧ w = w' := by
  have HC := Lib.hid hC
  clear hC
  obtain ⟨cl, hcl⟩ : ∃ cl, code.data.toList = cl := ⟨_, rfl⟩
  obtain rfl : code = B cl := by rw [← hcl, B_L]
  clear hcl
  rw [L_B]
  go_enter Tryz.func97, Tryz.ntmps97
  go_wp2
  go_loop [4, 5] (fun _ i => ∃ k : Nat, k ≤ 29 ∧ i = .int .i64 k ∧ Hid (∀ j, j < k → codeL j ≠ cl)) (fun _ i => 29 - (intOf i).toNat)
  case atStart => exact ⟨0, Nat.zero_le _, rfl, Lib.hid (fun j h => by omega)⟩
  case round =>
    obtain ⟨k, hk, rfl, hno⟩ := hrel
    by_cases hlt : k < 29
    · have hc := HC.out k hlt
      have hsa := signs_at k hlt
      by_cases he : codeL k = cl
      · have HN := Lib.hid (letN_at cl k hlt hno.out he)
        subst he
        go_wp2
        go_ret2
        exact ⟨ret_val (by simp only [letterV, HN.out, hlt, if_true]; rfl), rfl⟩
      · have hq : (codeL k == cl) = false := by simpa using he
        have HE := Lib.hid he
        clear he
        go_wp2
        go_round
        case rel => exact ⟨k + 1, by omega, by go_num, Lib.hid (fun j hj => by
          by_cases e : j = k
          · subst e; exact HE.out
          · exact hno.out j (by omega))⟩
        case measure => simp [intOf]; omega
    · obtain rfl : k = 29 := by omega
      have HN := Lib.hid (letN_no cl hno.out)
      go_wp2
      go_ret2
      exact ⟨ret_val (by simp only [letterV]; rw [if_neg HN.out]; rfl), rfl⟩
end Go.Proofs.YtjbdmlpadoiicaaGreatDoor
