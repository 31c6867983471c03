/- strings.SplitSeq at a separator of one byte; letters and Read of package beam. -/
import Derived.Test.YtgcaldceiogkaaaDoorB2
import Derived.Test.YtgcaldceiogkaaaDoorR0
namespace Go.Proofs.YtgcaldceiogkaaaDoor
open Go.RowKit Go.Shelf
attribute [local go_sem] Oper.semAt_some

def splitB (c : UInt8) : List UInt8 → List (List UInt8)
  | [] => [[]]
  | b :: l => if b == c then [] :: splitB c l else (b :: (splitB c l).headD []) :: (splitB c l).tail

theorem splitB_ne (c : UInt8) (l : List UInt8) : splitB c l ≠ [] := by
  cases l with
  | nil => simp [splitB]
  | cons b l => simp only [splitB]; split <;> simp
theorem indexByte_lo (c : UInt8) : ∀ l : List UInt8, -1 ≤ Lib.indexByte l c
  | [] => by simp [Lib.indexByte]
  | b :: l => by
    have := indexByte_lo c l
    simp only [Lib.indexByte]; split <;> (try split) <;> omega
theorem indexByte_hi (c : UInt8) : ∀ l : List UInt8, Lib.indexByte l c < l.length
  | [] => by simp [Lib.indexByte]
  | b :: l => by
    have := indexByte_hi c l
    simp only [Lib.indexByte, List.length_cons]; split <;> (try split) <;> omega
theorem splitB_no (c : UInt8) : ∀ l : List UInt8, Lib.indexByte l c < 0 → splitB c l = [l]
  | [], _ => rfl
  | b :: l, h => by
    have lo := indexByte_lo c l
    by_cases hb : (b == c) = true
    · simp [Lib.indexByte, hb] at h
    · have hb' : (b == c) = false := by simpa using hb
      have hi : Lib.indexByte l c < 0 := by
        simp only [Lib.indexByte, hb', Bool.false_eq_true, if_false] at h
        split at h
        · simp_all
        · omega
      simp [splitB, hb', splitB_no c l hi]
theorem splitB_at (c : UInt8) : ∀ (l : List UInt8) (i : Nat), Lib.indexByte l c = i → splitB c l = l.take i :: splitB c (l.drop (i + 1))
  | [], i, h => by simp [Lib.indexByte] at h
  | b :: l, i, h => by
    have lo := indexByte_lo c l
    by_cases hb : (b == c) = true
    · simp only [Lib.indexByte, hb, if_true] at h
      obtain rfl : i = 0 := by omega
      simp [splitB, hb]
    · have hb' : (b == c) = false := by simpa using hb
      simp only [Lib.indexByte, hb', Bool.false_eq_true, if_false] at h
      split at h
      · omega
      · have hi : ¬ i = 0 := fun e => by subst e; simp at h; have : (Lib.indexByte l c == -1) = false := by simpa using ‹¬ (Lib.indexByte l c == -1) = true›
                                         simp at this; omega
        obtain ⟨j, rfl⟩ : ∃ j, i = j + 1 := ⟨i - 1, by omega⟩
        have hj : Lib.indexByte l c = j := by omega
        simp [splitB, hb', splitB_at c l j hj]

def strLen : Option Value → Nat
  | some (.string s) => s.size
  | _ => 0

/-- What the iterator's own step turns: the box of what is left. -/
def SplitIt (Bs : Nat) (A X : World) : Prop := ∃ s : ByteArray, X = A.setCell ⟨Bs, 0, none⟩ (.string s)

theorem splitSeq1_seq (n : Nat) (Bs Bp Bv : Nat) (c : UInt8) (l0 : List UInt8) (hsz : l0.length ≤ 1000000) (hp : Bs ≠ Bp) (hv : Bs ≠ Bv) :
    SeqC Tryd.prog n 95 #[.pointer (some ⟨Bp, 0, none⟩), .pointer (some ⟨Bs, 0, none⟩), .pointer (some ⟨Bv, 0, none⟩)] (fun x : List UInt8 => #[.string (B x)]) (SplitIt Bs) (SameOn [Bs, Bp, Bv]) (fun xs => xs = splitB c l0) (fun pre => pre <+: splitB c l0) (splitB c l0).length
      (fun W => W.cell? ⟨Bs, 0, none⟩ = some (.string (B l0)) ∧ W.frozen? ⟨Bs, 0, none⟩ = false ∧ W.cell? ⟨Bp, 0, none⟩ = some (.string (B [c])) ∧ W.cell? ⟨Bv, 0, none⟩ = some (.int .i64 0)) := by
  rintro l J Jx W ⟨hs, hf, hcp, hcv⟩ hJ hJx hY h0
  have HY := Lib.hid hY; have HJ := Lib.hid hJ; have HJx := Lib.hid hJx
  clear hY hJ hJx
  refine callsIn_of_wp Tryd.func95 rfl trivial ?_ rfl
  simp only [Tryd.ntmps95, List.size_toArray, List.length_cons, List.length_nil, Nat.reduceAdd, Nat.reduceSub, Array.replicate_succ, Array.replicate_zero, List.push_toArray, List.append_toArray, List.nil_append, List.cons_append]
  gi_wp2
  gi_loopw [7, 8] (fun _ _ wr => ∃ (pre : List (List UInt8)) (rest : List UInt8), rest.length ≤ 1000000 ∧ Hid (splitB c l0 = pre ++ splitB c rest) ∧ wr.cell? ⟨Bs, 0, none⟩ = some (.string (B rest)) ∧ wr.frozen? ⟨Bs, 0, none⟩ = false ∧ wr.cell? ⟨Bp, 0, none⟩ = some (.string (B [c])) ∧ wr.cell? ⟨Bv, 0, none⟩ = some (.int .i64 0) ∧ J pre wr)
    (fun _ _ wr => strLen (wr.cell? ⟨Bs, 0, none⟩))
  case atStart => exact ⟨[], l0, hsz, Lib.hid rfl, hs, hf, hcp, hcv, h0⟩
  case round =>
    obtain ⟨pre, rest, hrl, hsp, hs, hf, hcp, hcv, hJs⟩ := hrel
    have I1 : Hid (∀ (m : Nat) w, CallsIn Fence.wide m Tryd.prog 47 #[.string (B rest), .string (B [c])] w fun e w' => e = .returned (.int .i64 (Lib.indexByte rest c)) ∧ w = w') := Lib.hid fun m w =>
      callsIn_wide.2 ((Tryd.strings_Index_one (B rest) c w).mono fun e w' ⟨a, b⟩ => ⟨by simpa using a, b.symm⟩)
    have lo := indexByte_lo c rest
    have hi := indexByte_hi c rest
    by_cases hneg : Lib.indexByte rest c < 0
    · have HN := Lib.hid (splitB_no c rest hneg)
      have hlen : pre.length < (splitB c l0).length := by rw [hsp.out, HN.out]; simp
      obtain ⟨fn, tmps, assign, body, hy, hR⟩ := HY.out pre rest _ hJs hlen
      clear hlen
      gi_wp2_with (refine ⟨trivial, (fun h => by cases h), ?_⟩; gi_at_call 47; refine (I1.out _ _).mono ?_; rintro e w' ⟨rfl, rfl⟩)
      refine ⟨(fun h => by cases h), ?_⟩
      refine hR.mono ?_
      rintro e W3 (⟨rfl, hJ3, hk3⟩ | ⟨rfl, hJx3⟩)
      · gi_wp2
        go_end0
        exact ⟨⟨_, rfl⟩, .inl ⟨_, by rw [hsp.out, HN.out], hJ3⟩⟩
      · gi_wp2
        go_end0
        exact ⟨⟨_, rfl⟩, .inr ⟨_, ⟨[], by rw [hsp.out, HN.out]; simp⟩, hJx3⟩⟩
    · obtain ⟨i, hi'⟩ : ∃ i : Nat, Lib.indexByte rest c = i := ⟨(Lib.indexByte rest c).toNat, by omega⟩
      have HA := Lib.hid (splitB_at c rest i hi')
      rw [hi'] at I1 hi
      clear hi' hneg lo
      have hlen : pre.length < (splitB c l0).length := by rw [hsp.out, HA.out]; simp
      obtain ⟨fn, tmps, assign, body, hy, hR⟩ := HY.out pre (rest.take i) _ hJs hlen
      clear hlen
      have hir : i + 1 ≤ rest.length := by omega
      have e1 : (B rest).extract 0 i = B (rest.take i) := by apply ext_L; simp [ByteArray.data_extract]
      have e2 : (B rest).extract (i + 1) rest.length = B (rest.drop (i + 1)) := by
        apply ext_L; have := extract_tail (B rest) (i + 1); rw [size_B, L_B] at this; rw [this, L_B]
      gi_wp2_with (refine ⟨trivial, (fun h => by cases h), ?_⟩; gi_at_call 47; refine (I1.out _ _).mono ?_; rintro e w' ⟨rfl, rfl⟩)
      refine ⟨(fun h => by cases h), ?_⟩
      refine hR.mono ?_
      rintro e W3 (⟨rfl, hJ3, hk3⟩ | ⟨rfl, hJx3⟩)
      · have c1 : W3.cell? ⟨Bs, 0, none⟩ = some (.string (B rest)) := (hk3.cell (p := ⟨Bs, 0, none⟩) (by simp)).trans hs
        have c2 : W3.cell? ⟨Bp, 0, none⟩ = some (.string (B [c])) := (hk3.cell (p := ⟨Bp, 0, none⟩) (by simp)).trans hcp
        have c3 : W3.cell? ⟨Bv, 0, none⟩ = some (.int .i64 0) := (hk3.cell (p := ⟨Bv, 0, none⟩) (by simp)).trans hcv
        have c4 : W3.frozen? ⟨Bs, 0, none⟩ = false := (hk3.frozen (p := ⟨Bs, 0, none⟩) (by simp)).trans hf
        gi_wp2
        go_roundw
        case rel =>
          exact ⟨pre ++ [rest.take i], rest.drop (i + 1), by simp; omega, Lib.hid (by rw [hsp.out, HA.out]; simp), World.cell?_setCell_same _ _ _ c1, by rw [World.frozen?_setCell]; exact c4,
            by rw [World.cell?_setCell_other]; exact c2; simp [hp], by rw [World.cell?_setCell_other]; exact c3; simp [hv], HJ.out _ _ _ hJ3 ⟨_, rfl⟩⟩
        case measure =>
          rw [World.cell?_setCell_same _ _ _ c1, hs]
          simp [strLen]; omega
      · gi_wp2
        refine bodyPost_ret (results_none rfl _ _ _) rfl ?_
        exact ⟨⟨_, rfl⟩, .inr ⟨_, ⟨splitB c (rest.drop (i + 1)), by rw [hsp.out, HA.out]; simp⟩, hJx3⟩⟩
end Go.Proofs.YtgcaldceiogkaaaDoor
