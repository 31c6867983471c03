/- results and Results of package beam. -/
import Derived.Test.YtjbdmlpadoiicaaGreatDoorF2
import Derived.Sort.OwnSorted
import Derived.Test.YtjbdmlpadoiicaaGreatDoorR0
import Derived.Test.YtjbdmlpadoiicaaGreatDoorE3
set_option linter.unusedVariables false
set_option linter.unusedSimpArgs false
namespace Go.Proofs.YtjbdmlpadoiicaaGreatDoor
open Go.RowKit Go.Shelf

theorem encT_eq : encT = encStr := rfl

/-- A slice cut to its first elements owns these. -/
theorem ownsRow_cut {w : World} {base g n k cap : Nat} {e : TypeId} {xs : List Value} (h : w.ownsRow base e 1 (.slice (some ⟨g, 0, none⟩) n cap) n xs) (hk : k ≤ n) : w.ownsRow base e 1 (.slice (some ⟨g, 0, none⟩) k cap) k (xs.take k) := by
  obtain ⟨hl, h2⟩ := h
  rcases h2 with ⟨h0, _⟩ | ⟨g', cap', cur, hv, hb, hg, hn, hc, hs, ht⟩
  · cases h0
  · cases hv
    refine ⟨by rw [List.length_take]; omega, .inr ⟨g, cap, cur, rfl, hb, hg, by omega, hc, hs, ?_⟩⟩
    rw [← ht, List.take_take]; congr 1; omega

theorem _root_.Go.World.ownsRow.mono_base {w : World} {base base' n : Nat} {e : TypeId} {size : Nat} {v : Value} {xs : List Value} (h : w.ownsRow base e size v n xs) (hb : base' ≤ base) : w.ownsRow base' e size v n xs := by
  obtain ⟨hl, h2⟩ := h
  refine ⟨hl, ?_⟩
  rcases h2 with h0 | ⟨g', cap', cur, hv, hb', hg⟩
  · exact .inl h0
  · exact .inr ⟨g', cap', cur, hv, Nat.le_trans hb hb', hg⟩

/-- All that flashes can become, each once, in order. -/
def resL (s : List UInt8) (f : Nat) : List (List UInt8) := tidy (outL s f)
theorem walkL_ne (s : List UInt8) (left frm : Nat) (done : List UInt8) : walkL s left frm done ≠ [] := by
  cases left
  · simp [walkL_zero]
  · simp [walkL_succ]

theorem outcomes_any (s : ByteArray) (f : Int) (w : World) :
    Calls Tryz.prog 101 #[.string s, .int .i64 f] w fun e w' => e = .returned (.func (.func 125) #[] #[.pointer (some ⟨w.heap.size, 0, none⟩), .pointer (some ⟨w.heap.size + 1, 0, none⟩)]) ∧ (w.alloc (.cells #[.string s] 9)).alloc (.cells #[.int .i64 f] 3) = w' := by
  have hmf : ∀ (fn : Fn) (first cap : Array Value) (w : World), (Instr.makeFunc fn first cap).run Tryz.prog w = .ok (.func fn first cap) w := fun _ _ _ _ => rfl
  go_enter Tryz.func101, Tryz.ntmps101
  go_wp2
  go_ret
  exact ⟨rfl, rfl⟩

/-- Sorted of an iterator that yields something. -/
theorem sortedS {N : Nat} (hN : N ≤ 1000000) (g : Nat) (lb : Array Value) (eg : ∀ args w, (callFunc g args).run Tryz.prog w = .ok (.enter g args) w) (w : World) (ss : List (List UInt8)) (hss : ss ≠ []) {Sp : List (List UInt8) → Prop}
    (hseq : SeqStopsK Fence.wide 2 Tryz.prog g lb (fun x : List UInt8 => #[.string (B x)]) (KpT w.heap.size) (fun xs => xs = ss) Sp N w) (hl : ss.length ≤ 1000000) :
    Calls Tryz.prog 100 #[.func (.func g) #[] lb] w fun e w' =>
      ∃ (r cap : Nat), e = .returned (.slice (some ⟨r, 0, none⟩) ss.length cap) ∧ w'.ownsRow w.heap.size 9 1 (.slice (some ⟨r, 0, none⟩) ss.length cap) ss.length ((ss.mergeSort fun x y => decide (x ≤ y)).map encStr) ∧ Below w.heap.size w w' := by
  go_enter Tryz.func100, Tryz.ntmps100
  go_wp2_with fail
  refine (callsIn_wide.1 (collectS 4 (by omega) hN g lb eg w (S := fun xs => xs = ss) hseq)).mono ?_
  rintro e w1 ⟨v, xs, rfl, rfl, hrow, hnil, hb⟩
  rw [encT_eq] at hrow
  rcases hrow.2 with ⟨rfl, _⟩ | ⟨r, cap, cur, rfl, hbase, hbk, h1, h2, h3, h4⟩
  · exact absurd (hnil.1 rfl) hss
  have hH := holds_of_block hbk (by simpa using h4)
  have hr : r < w1.heap.size := (Array.getElem?_eq_some_iff.1 hbk).1
  go_wp2_with fail
  refine (Tryz.slices_Sort_string r 0 cap xs w1 hH hr (by omega)).mono ?_
  rintro e w2 ⟨rfl, q, os, rfl⟩
  have hrow2 := ownsRow_sorted (n := q) (os := os) (ts := xs.mergeSort fun x y => decide (x ≤ y)) (by simp) hbase hbk h1 h2 h3
  have hg2 := grownBy_sorted (w := w1) (g := r) (n := q) (os := os) (xs.mergeSort fun x y => decide (x ≤ y)).toArray
  have hb2 := hb.grown hg2 hb.size (fun k e => by cases e; exact hbase)
  obtain ⟨w3, e3⟩ : ∃ w3, Go.Sort.grow (Go.Sort.putRow encStr (Go.Sort.ahead w1 q) r 0 (xs.mergeSort fun x y => decide (x ≤ y)).toArray) os = w3 := ⟨_, rfl⟩
  rw [e3] at hrow2 hb2 ⊢
  clear hH hg2 e3 hbk h3 h4 hnil
  go_wp2_with fail
  go_ret
  exact ⟨r, cap, rfl, hrow2, hb2⟩

theorem results_any (s : List UInt8) (f : Nat) (w : World) (hs : s.length ≤ 100) (hf : f ≤ 2) :
    Calls Tryz.prog 67 #[.string (B s), .int .i64 f] w fun e w' =>
      ∃ (r cap : Nat), e = .returned (.slice (some ⟨r, 0, none⟩) (resL s f).length cap) ∧ w'.ownsRow w.heap.size 9 1 (.slice (some ⟨r, 0, none⟩) (resL s f).length cap) (resL s f).length ((resL s f).map encStr) ∧ Below w.heap.size w w' := by
  have hl := outL_le s f hs hf
  have hne : outL s f ≠ [] := walkL_ne _ _ _ _
  obtain ⟨ss, ess⟩ : ∃ ss, outL s f = ss := ⟨_, rfl⟩
  have HR : Hid (resL s f = Lib.compact (ss.mergeSort fun x y => decide (x ≤ y))) := Lib.hid (by unfold resL tidy; rw [ess])
  have hst := fun W h1 h2 h3 h4 => outcomes1_stops 2 w.heap.size (w.heap.size + 1) (w.heap.size + 2) s f W hs hf (by omega) h1 h2 h3 h4
  rw [ess] at hl hne hst
  have HST := Lib.hid hst
  clear hst ess
  go_enter Tryz.func67, Tryz.ntmps67
  go_wp2_with fail
  refine (outcomes_any _ _ _).mono ?_
  rintro e w1 ⟨rfl, hw1⟩
  have hz : w1.heap.size = w.heap.size + 2 := by rw [← hw1]; simp
  have hb1 : Below w.heap.size w w1 := by rw [← hw1]; exact ((Below.refl _ w).alloc (Nat.le_refl _) _).alloc (by simp) _
  have c0 : w1.cell? ⟨w.heap.size, 0, none⟩ = some (.string (B s)) := by clear hz hb1; subst hw1; go_simp
  have c1 : w1.cell? ⟨w.heap.size + 1, 0, none⟩ = some (.int .i64 f) := by clear hz hb1 c0; subst hw1; go_simp
  clear hw1
  have hseq := HST.out w1 (by omega) (by omega) c0 c1
  rw [← hz] at hseq
  have HQ := Lib.hid hseq
  have HZ := Lib.hid hz
  clear hseq hz c0 c1
  go_wp2_with fail
  refine (sortedS (N := ss.length) (by omega) _ _ (enters_of Tryz.func125 (by kernel_rfl) rfl) w1 ss hne HQ.out (by omega)).mono ?_
  rintro e w2 ⟨r, cap, rfl, hrow2, hb2⟩
  rcases hrow2.2 with ⟨h0, _⟩ | ⟨r', cap', cur, hv, hbase, hbk, h1, h2, h3, h4⟩
  · cases h0
  cases hv
  obtain ⟨ts, ets⟩ : ∃ ts, (ss.mergeSort fun x y => decide (x ≤ y)) = ts := ⟨_, rfl⟩
  have htl : ts.length = ss.length := by rw [← ets]; simp
  rw [ets] at hrow2 h4 HR
  have hH := holds_of_block (ss := ts) hbk (by rw [htl]; simpa using h4)
  have hcl := Lib.compact_length_le ts
  have HL := Lib.hid htl
  rw [← htl] at h1
  clear ets htl h4 hrow2
  go_wp2_with fail
  rw [← HL.out]
  refine (Tryz.slices_Compact_string r 0 cap ts w2 hH (by have := HL.out; omega) h1).mono ?_
  rintro e w3 ⟨rfl, q, hw3⟩
  have htl2 : (Lib.compact ts ++ List.replicate (ts.length - (Lib.compact ts).length) []).length = ts.length := by simp; omega
  have hrow3 := ownsRow_sorted (n := q) (os := #[]) (ts := Lib.compact ts ++ List.replicate (ts.length - (Lib.compact ts).length) []) htl2 hbase hbk h1 h2 h3
  have hg3 := grownBy_sorted (w := w2) (g := r) (n := q) (os := #[]) (Lib.compact ts ++ List.replicate (ts.length - (Lib.compact ts).length) []).toArray
  rw [Go.Sort.grow_empty, ← hw3] at hrow3 hg3
  have hb3 := (hb1.trans (hb2.mono (by have := hb1.size; omega))).grown hg3 (Nat.le_trans hb1.size hb2.size) (fun k e => by cases e; have := hb1.size; omega)
  have hrow4 := ownsRow_cut hrow3 hcl
  rw [List.map_append, List.take_left' (by simp)] at hrow4
  have hrow5 := hrow4.mono_base (base' := w.heap.size) hb1.size
  rw [← HR.out] at hrow5 ⊢
  clear hw3 hH hrow3 hrow4 hg3 h3 hcl htl2 hne hl
  go_wp2_with fail
  go_ret
  exact ⟨r, cap, rfl, hrow5, hb3⟩
end Go.Proofs.YtjbdmlpadoiicaaGreatDoor

/-! Results of package beam. -/
namespace Go.Proofs.YtjbdmlpadoiicaaGreatDoor
open Go.RowKit Go.Shelf

def resE (s : List UInt8) (n : Int) : Int := orI (flashE s 100) (faultsE n)
theorem resE_ok {s : List UInt8} {n : Int} (h : resE s n = 0) : s.length ≤ 100 ∧ 0 ≤ n ∧ n ≤ 2 := by
  unfold resE orI at h
  split at h
  · rename_i c
    have h1 := flashE_le' c
    unfold faultsE at h; split at h
    · cases h
    · exact ⟨by omega, by omega, by omega⟩
  · contradiction

theorem Results_err (s : ByteArray) (n : Int) (w : World) (hs : s.size ≤ maxLen) (hE : resE s.data.toList n ≠ 0) :
    Calls Tryz.prog 27 #[.string s, .int .i64 n] w fun e w' => e = .returned (.tuple #[.slice none 0 0, .int .i64 (resE s.data.toList n)]) ∧ Below w.heap.size w w' := by
  obtain ⟨q, eq⟩ : ∃ q, resE s.data.toList n = q := ⟨_, rfl⟩
  rw [eq] at hE ⊢
  have hne : (q != 0) = true := by simpa using hE
  have HQ : Hid (orI (flashE s.data.toList 100) (faultsE n) = q) := Lib.hid eq
  clear hE eq
  go_enter Tryz.func27, Tryz.ntmps27
  go_wp2_with fail
  refine (checkFlashes_any _ _ _ hs).mono ?_
  rintro e w' ⟨rfl, rfl⟩
  go_wp2_with fail
  refine (checkFaults_any _ _).mono ?_
  rintro e w' ⟨rfl, rfl⟩
  go_wp2_with fail
  refine (or_two _ _ _ _ (cell_two0 _ _ _ _) (cell_two1 _ _ _ _)).mono ?_
  rintro e w'' ⟨rfl, rfl⟩
  rw [HQ.out]
  go_wp2_with fail
  go_ret2
  exact ⟨ret_val rfl, (Below.refl _ _).alloc (Nat.le_refl _) _⟩

theorem Results_ok (s : List UInt8) (n : Nat) (w : World) (hE : resE s n = 0) :
    Calls Tryz.prog 27 #[.string (B s), .int .i64 n] w fun e w' =>
      ∃ (r cap : Nat), e = .returned (.tuple #[.slice (some ⟨r, 0, none⟩) (resL s n).length cap, .int .i64 0]) ∧ w'.ownsRow w.heap.size 9 1 (.slice (some ⟨r, 0, none⟩) (resL s n).length cap) (resL s n).length ((resL s n).map encStr) ∧ Below w.heap.size w w' := by
  obtain ⟨h1, h2, h3⟩ := resE_ok hE
  have hs : (B s).size ≤ maxLen := by rw [size_B]; unfold maxLen; omega
  have HQ : Hid (orI (flashE s 100) (faultsE n) = 0) := Lib.hid hE
  have hn2 : n ≤ 2 := by omega
  clear hE h3 h2
  go_enter Tryz.func27, Tryz.ntmps27
  go_wp2_with fail
  refine (checkFlashes_any _ _ _ hs).mono ?_
  rintro e w' ⟨rfl, rfl⟩
  go_wp2_with fail
  refine (checkFaults_any _ _).mono ?_
  rintro e w' ⟨rfl, rfl⟩
  go_wp2_with fail
  refine (or_two _ _ _ _ (cell_two0 _ _ _ _) (cell_two1 _ _ _ _)).mono ?_
  rintro e w'' ⟨rfl, rfl⟩
  rw [HQ.out]
  go_wp2_with fail
  refine (results_any s n _ h1 hn2).mono ?_
  rintro e w2 ⟨r, cap, rfl, hrow, hb2⟩
  have hz : w.heap.size ≤ w.heap.size + 1 := by omega
  have hrow2 := hrow.mono_base (base' := w.heap.size) (by simp)
  have hb3 := (Below.refl w.heap.size w).alloc (Nat.le_refl _) (.cells #[.int .i64 (flashE s 100), .int .i64 (faultsE n)] 24) |>.trans (hb2.mono (by simp))
  clear hrow hb2
  go_wp2_with fail
  go_ret2
  exact ⟨r, cap, rfl, hrow2, hb3⟩
end Go.Proofs.YtjbdmlpadoiicaaGreatDoor
