/- newSheet of package beam. -/
import Derived.Test.YtjbdmlpadoiicaaGreatDoorC2
set_option linter.unusedVariables false
set_option linter.unusedSimpArgs false
namespace Go.Proofs.YtjbdmlpadoiicaaGreatDoor
open Go.RowKit Go.Shelf

/-- The cells of a sheet whose first q numbers are 200, the others 0. -/
def Sh0 (C : Array Value) (r : ByteArray) (most : Int) (q : Nat) : Prop :=
  C.size = 10204 ∧ C[0]? = some (.string r) ∧ C[1]? = some (.int .i64 most) ∧ C[2]? = some (.slice none 0 0) ∧ ∀ x : Nat, x < 10201 → C[3 + x]? = some (.int .i16 (if x < q then 200 else 0))

theorem Sh0.step {C : Array Value} {r : ByteArray} {most : Int} {q : Nat} (h : Sh0 C r most q) (hq : q < 10201) : Sh0 (C.setIfInBounds (3 + q) (.int .i16 200)) r most (q + 1) := by
  obtain ⟨h0, h1, h2, h3, h4⟩ := h
  refine ⟨by simpa using h0, ?_, ?_, ?_, fun x hx => ?_⟩
  · rw [Array.getElem?_setIfInBounds_ne (by omega)]; exact h1
  · rw [Array.getElem?_setIfInBounds_ne (by omega)]; exact h2
  · rw [Array.getElem?_setIfInBounds_ne (by omega)]; exact h3
  · by_cases e : x = q
    · subst e; rw [Array.getElem?_setIfInBounds_self_of_lt (by omega), if_pos (by omega)]
    · rw [Array.getElem?_setIfInBounds_ne (by omega), h4 x hx]
      by_cases c : x < q
      · rw [if_pos c, if_pos (by omega)]
      · rw [if_neg c, if_neg (by omega)]

def isZ16 : Value → Bool
  | .int .i16 n => n == 0
  | _ => false
theorem isZ16_eq {v : Value} (h : isZ16 v = true) : v = .int .i16 0 := by
  unfold isZ16 at h
  split at h
  · rename_i n; rw [show n = 0 from by simpa using h]
  · cases h
theorem zeroSh_size : Tryz.zeroCells130.size = 10204 := Tryz.zeroCells130_size
theorem zeroSh_all : (Tryz.zeroCells130.toList.drop 3).all isZ16 = true := by kernel_rfl
theorem zeroSh_2 : (Tryz.zeroCells130.toList.drop 2).head? = some (.slice none 0 0) := by kernel_rfl
theorem zeroSh_get (x : Nat) {C : Array Value} (hl : 3 + x < C.size) : (C.toList.drop 3)[x]? = some (C[3 + x]) := by
  rw [List.getElem?_drop, Array.getElem?_toList, Array.getElem?_eq_getElem hl]
theorem zeroSh_any {C : Array Value} (hs : C.size = 10204) (ha : (C.toList.drop 3).all isZ16 = true) (x : Nat) (hx : x < 10201) : C[3 + x]? = some (.int .i16 0) := by
  have hl : 3 + x < C.size := by omega
  rw [Array.getElem?_eq_getElem hl]
  have := List.all_eq_true.1 ha (C[3 + x]'hl) (List.mem_iff_getElem?.2 ⟨x, zeroSh_get x hl⟩)
  rw [isZ16_eq this]
theorem zeroSh_at (x : Nat) (hx : x < 10201) : Tryz.zeroCells130[3 + x]? = some (.int .i16 0) := zeroSh_any zeroSh_size zeroSh_all x hx
theorem zeroSh_start (r : ByteArray) (most : Int) : Sh0 ((Tryz.zeroCells130.setIfInBounds 0 (.string r)).setIfInBounds 1 (.int .i64 most)) r most 0 := by
  have hs := zeroSh_size
  refine ⟨by simp, ?_, ?_, ?_, fun x hx => ?_⟩
  · rw [Array.getElem?_setIfInBounds_ne (by omega), Array.getElem?_setIfInBounds_self_of_lt (by omega)]
  · rw [Array.getElem?_setIfInBounds_self_of_lt (by simp)]
  · rw [Array.getElem?_setIfInBounds_ne (by omega), Array.getElem?_setIfInBounds_ne (by omega), ← Array.getElem?_toList, ← zeroSh_2, List.head?_drop]
  · rw [Array.getElem?_setIfInBounds_ne (by omega), Array.getElem?_setIfInBounds_ne (by omega), if_neg (by omega)]
    exact zeroSh_at x hx

set_option maxRecDepth 100000 in
set_option maxHeartbeats 1000000 in
theorem newSheet_any (r : ByteArray) (most : Int) (w : World) :
    Calls Tryz.prog 69 #[.string r, .int .i64 most] w fun e w' => e = .returned (.pointer (some ⟨w.heap.size, 0, none⟩)) ∧ Below w.heap.size w w' ∧
      ∃ C, w'.heap[w.heap.size]? = some (.cells C 130 (0, 0)) ∧ ∃ C', C = C'.setIfInBounds 3 (.int .i16 0) ∧ Sh0 C' r most 10201 := by
  go_enter Tryz.func69, Tryz.ntmps69
  go_wp2_with fail
  go_loopw [6, 7, 12, 15] (fun _ _ i _ wr => ∃ (k : Nat) (C : Array Value), k ≤ 101 ∧ i = .int .i64 k ∧ Hid (wr.heap[w.heap.size]? = some (.cells C 130 (0, 0))) ∧ Hid (Sh0 C r most (k * 101)) ∧ Below w.heap.size w wr) (fun _ _ i _ _ => 101 - (intOf i).toNat)
  case atStart => exact ⟨0, _, Nat.zero_le _, rfl, Lib.hid (heap_alloc_new w _), Lib.hid (zeroSh_start r most), (Below.refl _ w).alloc (Nat.le_refl _) _⟩
  case round =>
    obtain ⟨k, C, hk, rfl, hh, hS, hB⟩ := hrel
    by_cases hlt : k < 101
    · go_wp2_with fail
      go_loopw [7, 15] (fun _ j wj => ∃ (m : Nat) (C : Array Value), m ≤ 101 ∧ j = .int .i64 m ∧ Hid (wj.heap[w.heap.size]? = some (.cells C 130 (0, 0))) ∧ Hid (Sh0 C r most (k * 101 + m)) ∧ Below w.heap.size w wj) (fun _ j _ => 101 - (intOf j).toNat)
      case atStart => exact ⟨0, C, Nat.zero_le _, rfl, hh, hS, hB⟩
      case round =>
        clear hB hh hS
        obtain ⟨m, C, hm, rfl, hh, hS, hB⟩ := hrel
        by_cases hml : m < 101
        · obtain ⟨ov, hov⟩ : ∃ ov, C[3 + (k * 101 + m)]? = some (.int .i16 ov) := ⟨_, hS.out.2.2.2.2 (k * 101 + m) (by omega)⟩
          have c0 : wr.cell? ⟨w.heap.size, 3 + k * 101 + m, none⟩ = some (.int .i16 ov) := (cell_of_heap hh.out _).trans (by rw [Nat.add_assoc]; exact hov)
          have f0 : wr.frozen? ⟨w.heap.size, 3 + k * 101 + m, none⟩ = false := free_of_heap hh.out _
          clear hov
          go_wp2_with fail
          go_roundw
          case rel => exact ⟨m + 1, _, by omega, by go_num, Lib.hid (by rw [Nat.add_assoc]; exact heap_setCell_same hh.out _ _), Lib.hid (hS.out.step (by omega)), hB.setCell (p := ⟨w.heap.size, _, none⟩) (Nat.le_refl _) _⟩
          case measure => simp [intOf]; omega
        · obtain rfl : m = 101 := by omega
          go_wp2_with fail
          go_roundw
          case rel => exact ⟨k + 1, C, by omega, by go_num, hh, by rw [show (k + 1) * 101 = k * 101 + 101 from by omega]; exact hS, hB⟩
          case measure => simp [intOf]; omega
    · obtain rfl : k = 101 := by omega
      obtain ⟨ov, hov⟩ : ∃ ov, C[3]? = some (.int .i16 ov) := ⟨_, hS.out.2.2.2.2 0 (by omega)⟩
      have c0 : wr.cell? ⟨w.heap.size, 3, none⟩ = some (.int .i16 ov) := (cell_of_heap hh.out _).trans hov
      have f0 : wr.frozen? ⟨w.heap.size, 3, none⟩ = false := free_of_heap hh.out _
      clear hov
      go_wp2
      go_ret
      exact ⟨rfl, hB.setCell (p := ⟨w.heap.size, _, none⟩) (Nat.le_refl _) _, _, heap_setCell_same hh.out _ _, C, rfl, hS.out⟩
end Go.Proofs.YtjbdmlpadoiicaaGreatDoor

/-! ending of package beam: the fewest faults if flashes end with a part. -/
namespace Go.Proofs.YtjbdmlpadoiicaaGreatDoor
open Go.RowKit Go.Shelf

/-- A sheet in memory: block Sb; what was sent lies in a row of its own from block base on; the numbers are T. -/
structure Sheet (w : World) (Sb base : Nat) (r : List UInt8) (most : Int) (sent : List UInt8) (T : Nat → Nat → Int) : Prop where
  lay : ∃ C sv, w.heap[Sb]? = some (.cells C 130 (0, 0)) ∧ C.size = 10204 ∧ C[0]? = some (.string (B r)) ∧ C[1]? = some (.int .i64 most) ∧ C[2]? = some sv ∧
    w.ownsRow base 5 1 sv sent.length (sent.map encU) ∧ ∀ i j : Nat, i < 101 → j < 101 → C[3 + i * 101 + j]? = some (.int .i16 (T i j))
  below : Sb < base
  small : base ≤ w.heap.size
  fits : ∀ i j : Nat, i < 101 → j < 101 → 0 ≤ T i j ∧ T i j ≤ 200
  len : sent.length ≤ 100
  lenr : r.length ≤ 100

/-- The number for an end with a part. -/
def endI (T : Nat → Nat → Int) (s r : List UInt8) (kind i j : Nat) : Int :=
  if kind = 0 then (if i < 1 ∨ j < 1 then 200 else if s.getD (i - 1) 0 = r.getD (j - 1) 0 then T (i - 1) (j - 1) else 200)
  else if kind = 1 then (if i < 1 then 200 else T (i - 1) j + 1)
  else if kind = 2 then (if i < 1 ∨ j < 2 then 200 else if s.getD (i - 1) 0 = r.getD (j - 2) 0 ∧ s.getD (i - 1) 0 = r.getD (j - 1) 0 then T (i - 1) (j - 2) + 1 else 200)
  else (if i < 2 ∨ j < 2 then 200 else if s.getD (i - 2) 0 = r.getD (j - 1) 0 ∧ s.getD (i - 1) 0 = r.getD (j - 2) 0 then T (i - 2) (j - 2) + 1 else 200)

def partV (kind ps pr : Int) : Value := .agg #[.int .i64 kind, .int .i64 ps, .int .i64 pr]

theorem getElem_B (l : List UInt8) (k : Nat) (h : k < (B l).size) : (B l)[k]'h = l[k]'(by simpa using h) := by simp [B, ByteArray.getElem_eq_getElem_data]
attribute [local go_sem] getElem_B
theorem cut1 (r : List UInt8) (j : Nat) (h : j < r.length) : (B r).extract j (j + 1) = B [r.getD j 0] := by
  apply ext_L
  rw [L_B, ByteArray.data_extract, Array.toList_extract, L_B, List.extract]
  rw [show j + 1 - j = 1 from by omega, List.take_one, List.head?_drop, List.getElem?_eq_getElem h, List.getD_eq_getElem?_getD, List.getElem?_eq_getElem h]; rfl
theorem cut2 (r : List UInt8) (j : Nat) (h : j + 1 < r.length) : (B r).extract j (j + 2) = B [r.getD j 0, r.getD (j + 1) 0] := by
  apply ext_L
  rw [L_B, ByteArray.data_extract, Array.toList_extract, L_B, List.extract]
  rw [show j + 2 - j = 2 from by omega, List.drop_eq_getElem_cons (show j < r.length by omega), List.take_succ_cons, List.drop_eq_getElem_cons h, List.take_succ_cons, List.take_zero]
  simp [List.getElem?_eq_getElem (show j < r.length by omega), List.getElem?_eq_getElem h]

theorem slice_run (w : World) (g n cap a b : Nat) (hab : a ≤ b) (hb : b ≤ cap) (hac : a < cap) (x y : Int) (hx : x = a) (hy : y = b) :
    (Instr.slice 105 (.slice (some ⟨g, 0, none⟩) n cap) (some (.int .i64 x)) (some (.int .i64 y)) none).run Tryz.prog w = .ok (.slice (some ⟨g, a, none⟩) (b - a) (cap - a)) w := by
  have h1 : 0 ≤ x ∧ x ≤ (b : Int) := by omega
  have h2 : 0 ≤ y ∧ y ≤ (cap : Int) := by omega
  have h3 : y.toNat = b := by omega
  have h4 : x.toNat = a := by omega
  simp [Instr.slice, Instr.sliceBounds, Instr.sliceBound, asIntOf, run_underlying Tryz.underlying105, h1, h2, h3, h4, go_sem]
  intro h; omega

theorem sslice_run (w : World) (r x : List UInt8) (a b : Nat) (hab : a ≤ b) (hb : b ≤ r.length) (hx : (B r).extract a b = B x) (y z : Int) (hy : y = a) (hz : z = b) :
    (Instr.slice 9 (.string (B r)) (some (.int .i64 y)) (some (.int .i64 z)) none).run Tryz.prog w = .ok (.string (B x)) w := by
  rw [run_slice_string _ _ _ _ _ _ _ Tryz.underlying9 (by omega) (by omega) (by rw [size_B]; omega), show y.toNat = a from by omega, show z.toNat = b from by omega, hx]

set_option maxRecDepth 100000 in
set_option maxHeartbeats 1000000 in
theorem ending0 (w : World) (Sb base : Nat) (r : List UInt8) (most : Int) (sent : List UInt8) (T : Nat → Nat → Int) (i j : Nat) (hS : Sheet w Sb base r most sent T) (hi : i ≤ sent.length) (hj : j ≤ r.length) :
    Calls Tryz.prog 122 #[.pointer (some ⟨Sb, 0, none⟩), .agg #[.int .i64 0, .int .i64 1, .int .i64 1], .int .i64 i, .int .i64 j] w fun e w' => e = .returned (.int .i16 (endI T sent r 0 i j)) ∧ Below w.heap.size w w' := by
  have hbx : Below w.heap.size w (w.alloc (.cells #[.int .i64 0, .int .i64 1, .int .i64 1] 178)) := (Below.refl _ w).alloc (Nat.le_refl _) _
  by_cases hi1 : i < 1
  · have HE : Hid (endI T sent r 0 i j = 200) := Lib.hid (by simp [endI]; omega)
    go_enter Tryz.func122, Tryz.ntmps122
    go_wp2_with fail
    go_ret
    exact ⟨ret_int HE.out.symm, hbx⟩
  by_cases hj1 : j < 1
  · have HE : Hid (endI T sent r 0 i j = 200) := Lib.hid (by simp [endI]; omega)
    go_enter Tryz.func122, Tryz.ntmps122
    go_wp2_with fail
    go_ret
    exact ⟨ret_int HE.out.symm, hbx⟩
  obtain ⟨i, rfl⟩ : ∃ i', i = i' + 1 := ⟨i - 1, by omega⟩
  obtain ⟨j, rfl⟩ : ∃ j', j = j' + 1 := ⟨j - 1, by omega⟩
  have hlen := hS.len
  have hlenr := hS.lenr
  obtain ⟨C, sv, hh, hC, h0, h1, h2, hrow, hT⟩ := hS.lay
  have hft := hS.fits i j (by omega) (by omega)
  obtain ⟨g, cap, cur, rfl, hg1, hg2, hg3, hg4, hg5, hg6⟩ : ∃ g cap cur, sv = .slice (some ⟨g, 0, none⟩) sent.length cap ∧ base ≤ g ∧ w.heap[g]? = some (.cells cur 5 (0, 0)) ∧ sent.length ≤ cap ∧ cap ≤ maxLen ∧ cur.size = cap * 1 ∧ cur.toList.take (sent.length * 1) = sent.map encU := by
    rcases hrow.2 with ⟨_, h⟩ | h
    · omega
    · exact h
  have hSb : Sb < w.heap.size := Nat.lt_of_lt_of_le hS.below hS.small
  have hgs : g < w.heap.size := (Array.getElem?_eq_some_iff.1 hg2).1
  have old : ∀ b o, b < w.heap.size → (w.alloc (.cells #[.int .i64 0, .int .i64 1, .int .i64 1] 178)).cell? ⟨b, o, none⟩ = w.cell? ⟨b, o, none⟩ := fun b o hb => hbx.cell (p := ⟨b, o, none⟩) hb
  obtain ⟨W, hW⟩ : ∃ W, w.alloc (.cells #[.int .i64 0, .int .i64 1, .int .i64 1] 178) = W := ⟨_, rfl⟩
  have c0 : W.cell? ⟨Sb, 0, none⟩ = some (.string (B r)) := by rw [← hW, old _ _ hSb, cell_of_heap hh]; exact h0
  have c2 : W.cell? ⟨Sb, 2, none⟩ = some (.slice (some ⟨g, 0, none⟩) sent.length cap) := by rw [← hW, old _ _ hSb, cell_of_heap hh]; exact h2
  have cT : W.cell? ⟨Sb, 3 + i * 101 + j, none⟩ = some (.int .i16 (T i j)) := by rw [← hW, old _ _ hSb, cell_of_heap hh]; exact hT i j (by omega) (by omega)
  have cs : W.cell? ⟨g, i, none⟩ = some (.int .u8 (sent.getD i 0).toNat) := by
    rw [← hW, old _ _ hgs]
    have := hrow.cells (g := g) rfl i (encU (sent.getD i 0)) (by simp [List.getElem?_eq_getElem (show i < sent.length by omega)])
    rwa [show (⟨g, 0, none⟩ : Addr).add i = ⟨g, i, none⟩ from by unfold Addr.add; split <;> simp_all] at this
  have p0 : W.cell? ⟨w.heap.size, 0, none⟩ = some (.int .i64 0) := by clear c0 c2 cT cs; subst hW; go_simp
  have p1 : W.cell? ⟨w.heap.size, 1, none⟩ = some (.int .i64 1) := by clear p0 c0 c2 cT cs; subst hW; go_simp
  have p2 : W.cell? ⟨w.heap.size, 2, none⟩ = some (.int .i64 1) := by clear p0 p1 c0 c2 cT cs; subst hW; go_simp
  have a1 : IntKind.i64.wrap ((i : Int) + 1 - 1) = (i : Int) := by rw [IntWalk.i64_in _ (by omega)]; omega
  have a2 : IntKind.i64.wrap ((j : Int) + 1 - 1) = (j : Int) := by rw [IntWalk.i64_in _ (by omega)]; omega
  have hbW : Below w.heap.size w W := by rw [← hW]; exact hbx
  have HW := Lib.hid hW
  have hil : (i : Int) + 1 ≤ sent.length := by omega
  have hjl : (j : Int) + 1 ≤ r.length := by omega
  have hcl : sent.length ≤ cap := hg3
  have hss : ∀ W', (Instr.slice 9 (.string (B r)) (some (.int .i64 (j : Int))) (some (.int .i64 ((j : Int) + 1))) none).run Tryz.prog W' = .ok (.string (B [r.getD j 0])) W' := fun W' => sslice_run W' r _ j (j + 1) (by omega) (by omega) (cut1 r j (by omega)) (j : Int) ((j : Int) + 1) rfl (by omega)
  have hsl : ∀ W', (Instr.slice 105 (.slice (some ⟨g, 0, none⟩) sent.length cap) (some (.int .i64 (i : Int))) (some (.int .i64 ((i : Int) + 1))) none).run Tryz.prog W' = .ok (.slice (some ⟨g, i, none⟩) 1 (cap - i)) W' := fun W' => by
    have := slice_run W' g sent.length cap i (i + 1) (by omega) (by omega) (by omega) (i : Int) ((i : Int) + 1) rfl (by omega)
    rwa [show i + 1 - i = 1 from by omega] at this
  obtain ⟨xa, exa⟩ : ∃ x, sent.getD i 0 = x := ⟨_, rfl⟩
  obtain ⟨xb, exb⟩ : ∃ x, r.getD j 0 = x := ⟨_, rfl⟩
  rw [exa] at cs
  rw [exb] at hss
  have HXA := Lib.hid exa; have HXB := Lib.hid exb
  clear hW hh hT hrow hg2 hg6 old hS exa exb
  go_enter Tryz.func122, Tryz.ntmps122
  go_wp2_with fail
  rw [HW.out]
  by_cases he : xa = xb
  · have HE : Hid (endI T sent r 0 (i + 1) (j + 1) = T i j) := Lib.hid (by simp only [endI, if_true]; rw [if_neg (by omega)]; simp only [Nat.add_sub_cancel]; rw [if_pos (by rw [HXA.out, HXB.out, he])])
    have hq : (((xa.toNat : Nat) : Int) == ((xb.toNat : Nat) : Int)) = true := by rw [he]; simp
    clear he
    go_quiet (fail)
    go_wp2_with fail
    go_quiet (fail)
    go_wp2_with fail
    go_quiet (fail)
    go_wp2_with fail
    go_ret
    exact ⟨ret_int HE.out.symm, (by repeat (first | exact hbW | refine below_drewN ?_ _))⟩
  · have HE : Hid (endI T sent r 0 (i + 1) (j + 1) = 200) := Lib.hid (by simp only [endI, if_true]; rw [if_neg (by omega)]; simp only [Nat.add_sub_cancel]; rw [if_neg (by rw [HXA.out, HXB.out]; exact he)])
    have hq : (((xa.toNat : Nat) : Int) == ((xb.toNat : Nat) : Int)) = false := by
      rw [beq_eq_false_iff_ne]; intro h; exact he (UInt8.toNat_inj.1 (by omega))
    clear he
    go_quiet (fail)
    go_wp2_with fail
    go_quiet (fail)
    go_wp2_with fail
    go_quiet (fail)
    go_wp2_with fail
    go_quiet (fail)
    go_wp2_with fail
    go_quiet (fail)
    go_wp2_with fail
    go_ret
    exact ⟨ret_int HE.out.symm, (by repeat (first | exact hbW | refine below_drewN ?_ _))⟩

/-! ### kinds 1 to 3 -/
theorem i16_in (n : Int) (h : -32768 ≤ n ∧ n ≤ 32767) : IntKind.i16.wrap n = n := by
  simp [IntKind.wrap, IntKind.bits, IntKind.signed]; omega

set_option maxRecDepth 100000 in
set_option maxHeartbeats 2000000 in
theorem ending1 (w : World) (Sb base : Nat) (r : List UInt8) (most : Int) (sent : List UInt8) (T : Nat → Nat → Int) (i j : Nat) (hS : Sheet w Sb base r most sent T) (hi : i ≤ sent.length) (hj : j ≤ r.length) :
    Calls Tryz.prog 122 #[.pointer (some ⟨Sb, 0, none⟩), .agg #[.int .i64 1, .int .i64 1, .int .i64 0], .int .i64 i, .int .i64 j] w fun e w' => e = .returned (.int .i16 (endI T sent r 1 i j)) ∧ Below w.heap.size w w' := by
  have hbx : Below w.heap.size w (w.alloc (.cells #[.int .i64 1, .int .i64 1, .int .i64 0] 178)) := (Below.refl _ w).alloc (Nat.le_refl _) _
  by_cases hi1 : i < 1
  · have HE : Hid (endI T sent r 1 i j = 200) := Lib.hid (by simp [endI]; omega)
    go_enter Tryz.func122, Tryz.ntmps122
    go_wp2_with fail
    go_ret
    exact ⟨ret_int HE.out.symm, hbx⟩
  obtain ⟨i, rfl⟩ : ∃ i', i = i' + 1 := ⟨i - 1, by omega⟩
  have hlen := hS.len
  have hlenr := hS.lenr
  obtain ⟨C, sv, hh, hC, h0, h1, h2, hrow, hT⟩ := hS.lay
  have hft := hS.fits i j (by omega) (by omega)
  obtain ⟨g, cap, cur, rfl, hg1, hg2, hg3, hg4, hg5, hg6⟩ : ∃ g cap cur, sv = .slice (some ⟨g, 0, none⟩) sent.length cap ∧ base ≤ g ∧ w.heap[g]? = some (.cells cur 5 (0, 0)) ∧ sent.length ≤ cap ∧ cap ≤ maxLen ∧ cur.size = cap * 1 ∧ cur.toList.take (sent.length * 1) = sent.map encU := by
    rcases hrow.2 with ⟨_, h⟩ | h
    · omega
    · exact h
  have hSb : Sb < w.heap.size := Nat.lt_of_lt_of_le hS.below hS.small
  have hgs : g < w.heap.size := (Array.getElem?_eq_some_iff.1 hg2).1
  have old : ∀ b o, b < w.heap.size → (w.alloc (.cells #[.int .i64 1, .int .i64 1, .int .i64 0] 178)).cell? ⟨b, o, none⟩ = w.cell? ⟨b, o, none⟩ := fun b o hb => hbx.cell (p := ⟨b, o, none⟩) hb
  obtain ⟨W, hW⟩ : ∃ W, w.alloc (.cells #[.int .i64 1, .int .i64 1, .int .i64 0] 178) = W := ⟨_, rfl⟩
  have c0 : W.cell? ⟨Sb, 0, none⟩ = some (.string (B r)) := by rw [← hW, old _ _ hSb, cell_of_heap hh]; exact h0
  have c2 : W.cell? ⟨Sb, 2, none⟩ = some (.slice (some ⟨g, 0, none⟩) sent.length cap) := by rw [← hW, old _ _ hSb, cell_of_heap hh]; exact h2
  have cT : W.cell? ⟨Sb, 3 + i * 101 + j, none⟩ = some (.int .i16 (T i j)) := by rw [← hW, old _ _ hSb, cell_of_heap hh]; exact hT i j (by omega) (by omega)
  have csA : ∀ k, k < sent.length → W.cell? ⟨g, k, none⟩ = some (.int .u8 (sent.getD k 0).toNat) := by
    intro k hk
    rw [← hW, old _ _ hgs]
    have := hrow.cells (g := g) rfl k (encU (sent.getD k 0)) (by simp [List.getElem?_eq_getElem hk])
    rwa [show (⟨g, 0, none⟩ : Addr).add k = ⟨g, k, none⟩ from by unfold Addr.add; split <;> simp_all] at this
  have cs := csA i (by omega)
  have p0 : W.cell? ⟨w.heap.size, 0, none⟩ = some (.int .i64 1) := by clear c0 c2 cT cs csA; subst hW; go_simp
  have p1 : W.cell? ⟨w.heap.size, 1, none⟩ = some (.int .i64 1) := by clear p0 c0 c2 cT cs csA; subst hW; go_simp
  have p2 : W.cell? ⟨w.heap.size, 2, none⟩ = some (.int .i64 0) := by clear p0 p1 c0 c2 cT cs csA; subst hW; go_simp
  have a1 : IntKind.i64.wrap ((i : Int) + 1 - 1) = (i : Int) := by rw [IntWalk.i64_in _ (by omega)]; omega
  have a2 : IntKind.i64.wrap (j : Int) = (j : Int) := IntWalk.i64_in _ (by omega)
  have a3 : IntKind.i16.wrap (T i j + 1) = T i j + 1 := i16_in _ (by omega)
  have hbW : Below w.heap.size w W := by rw [← hW]; exact hbx
  have HW := Lib.hid hW
  have hil : (i : Int) + 1 ≤ sent.length := by omega
  have hjl : (j : Int) ≤ r.length := by omega
  have hss : ∀ W', (Instr.slice 9 (.string (B r)) (some (.int .i64 (j : Int))) (some (.int .i64 (j : Int))) none).run Tryz.prog W' = .ok (.string (B [])) W' := fun W' => sslice_run W' r _ j j (by omega) (by omega) (by apply ext_L; rw [L_B, ByteArray.data_extract, Array.toList_extract, L_B, List.extract]; simp) (j : Int) (j : Int) rfl rfl
  have hsl : ∀ W', (Instr.slice 105 (.slice (some ⟨g, 0, none⟩) sent.length cap) (some (.int .i64 (i : Int))) (some (.int .i64 ((i : Int) + 1))) none).run Tryz.prog W' = .ok (.slice (some ⟨g, i, none⟩) 1 (cap - i)) W' := fun W' => by
    have := slice_run W' g sent.length cap i (i + 1) (by omega) (by omega) (by omega) (i : Int) ((i : Int) + 1) rfl (by omega)
    rwa [show i + 1 - i = 1 from by omega] at this
  have HE : Hid (endI T sent r 1 (i + 1) j = T i j + 1) := Lib.hid (by simp only [endI]; rw [if_neg (by decide), if_pos trivial, if_neg (by omega)]; simp only [Nat.add_sub_cancel])
  clear hW hh hT hrow hg2 hg6 old hS cs csA hbx
  go_enter Tryz.func122, Tryz.ntmps122
  go_wp2_with fail
  rw [HW.out]
  go_quiet (fail)
  go_wp2_with fail
  go_quiet (fail)
  go_wp2_with fail
  go_quiet (fail)
  go_wp2_with fail
  go_ret
  exact ⟨ret_int HE.out.symm, (by repeat (first | exact hbW | refine below_drewN ?_ _))⟩

set_option maxRecDepth 100000 in
set_option maxHeartbeats 2000000 in
theorem ending2 (w : World) (Sb base : Nat) (r : List UInt8) (most : Int) (sent : List UInt8) (T : Nat → Nat → Int) (i j : Nat) (hS : Sheet w Sb base r most sent T) (hi : i ≤ sent.length) (hj : j ≤ r.length) :
    Calls Tryz.prog 122 #[.pointer (some ⟨Sb, 0, none⟩), .agg #[.int .i64 2, .int .i64 1, .int .i64 2], .int .i64 i, .int .i64 j] w fun e w' => e = .returned (.int .i16 (endI T sent r 2 i j)) ∧ Below w.heap.size w w' := by
  have hbx : Below w.heap.size w (w.alloc (.cells #[.int .i64 2, .int .i64 1, .int .i64 2] 178)) := (Below.refl _ w).alloc (Nat.le_refl _) _
  by_cases hi1 : i < 1
  · have HE : Hid (endI T sent r 2 i j = 200) := Lib.hid (by simp [endI]; omega)
    go_enter Tryz.func122, Tryz.ntmps122
    go_wp2_with fail
    go_ret
    exact ⟨ret_int HE.out.symm, hbx⟩
  by_cases hj1 : j < 2
  · have HE : Hid (endI T sent r 2 i j = 200) := Lib.hid (by simp [endI]; omega)
    go_enter Tryz.func122, Tryz.ntmps122
    go_wp2_with fail
    go_ret
    exact ⟨ret_int HE.out.symm, hbx⟩
  obtain ⟨i, rfl⟩ : ∃ i', i = i' + 1 := ⟨i - 1, by omega⟩
  obtain ⟨j, rfl⟩ : ∃ j', j = j' + 2 := ⟨j - 2, by omega⟩
  have hlen := hS.len
  have hlenr := hS.lenr
  obtain ⟨C, sv, hh, hC, h0, h1, h2, hrow, hT⟩ := hS.lay
  have hft := hS.fits i j (by omega) (by omega)
  obtain ⟨g, cap, cur, rfl, hg1, hg2, hg3, hg4, hg5, hg6⟩ : ∃ g cap cur, sv = .slice (some ⟨g, 0, none⟩) sent.length cap ∧ base ≤ g ∧ w.heap[g]? = some (.cells cur 5 (0, 0)) ∧ sent.length ≤ cap ∧ cap ≤ maxLen ∧ cur.size = cap * 1 ∧ cur.toList.take (sent.length * 1) = sent.map encU := by
    rcases hrow.2 with ⟨_, h⟩ | h
    · omega
    · exact h
  have hSb : Sb < w.heap.size := Nat.lt_of_lt_of_le hS.below hS.small
  have hgs : g < w.heap.size := (Array.getElem?_eq_some_iff.1 hg2).1
  have old : ∀ b o, b < w.heap.size → (w.alloc (.cells #[.int .i64 2, .int .i64 1, .int .i64 2] 178)).cell? ⟨b, o, none⟩ = w.cell? ⟨b, o, none⟩ := fun b o hb => hbx.cell (p := ⟨b, o, none⟩) hb
  obtain ⟨W, hW⟩ : ∃ W, w.alloc (.cells #[.int .i64 2, .int .i64 1, .int .i64 2] 178) = W := ⟨_, rfl⟩
  have c0 : W.cell? ⟨Sb, 0, none⟩ = some (.string (B r)) := by rw [← hW, old _ _ hSb, cell_of_heap hh]; exact h0
  have c2 : W.cell? ⟨Sb, 2, none⟩ = some (.slice (some ⟨g, 0, none⟩) sent.length cap) := by rw [← hW, old _ _ hSb, cell_of_heap hh]; exact h2
  have cT : W.cell? ⟨Sb, 3 + i * 101 + j, none⟩ = some (.int .i16 (T i j)) := by rw [← hW, old _ _ hSb, cell_of_heap hh]; exact hT i j (by omega) (by omega)
  have csA : ∀ k, k < sent.length → W.cell? ⟨g, k, none⟩ = some (.int .u8 (sent.getD k 0).toNat) := by
    intro k hk
    rw [← hW, old _ _ hgs]
    have := hrow.cells (g := g) rfl k (encU (sent.getD k 0)) (by simp [List.getElem?_eq_getElem hk])
    rwa [show (⟨g, 0, none⟩ : Addr).add k = ⟨g, k, none⟩ from by unfold Addr.add; split <;> simp_all] at this
  have cs := csA i (by omega)
  have p0 : W.cell? ⟨w.heap.size, 0, none⟩ = some (.int .i64 2) := by clear c0 c2 cT cs csA; subst hW; go_simp
  have p1 : W.cell? ⟨w.heap.size, 1, none⟩ = some (.int .i64 1) := by clear p0 c0 c2 cT cs csA; subst hW; go_simp
  have p2 : W.cell? ⟨w.heap.size, 2, none⟩ = some (.int .i64 2) := by clear p0 p1 c0 c2 cT cs csA; subst hW; go_simp
  have a1 : IntKind.i64.wrap ((i : Int) + 1 - 1) = (i : Int) := by rw [IntWalk.i64_in _ (by omega)]; omega
  have a2 : IntKind.i64.wrap ((j : Int) + 2 - 2) = (j : Int) := by rw [IntWalk.i64_in _ (by omega)]; omega
  have a3 : IntKind.i16.wrap (T i j + 1) = T i j + 1 := i16_in _ (by omega)
  have hbW : Below w.heap.size w W := by rw [← hW]; exact hbx
  have HW := Lib.hid hW
  have hil : (i : Int) + 1 ≤ sent.length := by omega
  have hjl : ((j : Int) + 2) ≤ r.length := by omega
  have hss : ∀ W', (Instr.slice 9 (.string (B r)) (some (.int .i64 (j : Int))) (some (.int .i64 ((j : Int) + 2))) none).run Tryz.prog W' = .ok (.string (B [r.getD j 0, r.getD (j + 1) 0])) W' := fun W' => sslice_run W' r _ j (j + 2) (by omega) (by omega) (cut2 r j (by omega)) (j : Int) ((j : Int) + 2) rfl (by omega)
  have hsl : ∀ W', (Instr.slice 105 (.slice (some ⟨g, 0, none⟩) sent.length cap) (some (.int .i64 (i : Int))) (some (.int .i64 ((i : Int) + 1))) none).run Tryz.prog W' = .ok (.slice (some ⟨g, i, none⟩) 1 (cap - i)) W' := fun W' => by
    have := slice_run W' g sent.length cap i (i + 1) (by omega) (by omega) (by omega) (i : Int) ((i : Int) + 1) rfl (by omega)
    rwa [show i + 1 - i = 1 from by omega] at this
  obtain ⟨x0, ex0⟩ : ∃ x, sent.getD i 0 = x := ⟨_, rfl⟩
  obtain ⟨x1, ex1⟩ : ∃ x, sent.getD (i + 1) 0 = x := ⟨_, rfl⟩
  obtain ⟨y0, ey0⟩ : ∃ x, r.getD j 0 = x := ⟨_, rfl⟩
  obtain ⟨y1, ey1⟩ : ∃ x, r.getD (j + 1) 0 = x := ⟨_, rfl⟩
  rw [ex0] at cs
  rw [ey0, ey1] at hss
  have HE0 : Hid (endI T sent r 2 (i + 1) (j + 2) = if x0 = y0 ∧ x0 = y1 then T i j + 1 else 200) := Lib.hid (by simp only [endI]; rw [if_neg (by decide), if_neg (by decide), if_pos trivial, if_neg (by omega), show i + 1 - 1 = i from by omega, show j + 2 - 2 = j from by omega, show j + 2 - 1 = j + 1 from by omega, ex0, ey0, ey1])
  have eqT : ∀ x y : UInt8, x = y → (((x.toNat : Nat) : Int) == ((y.toNat : Nat) : Int)) = true := fun x y h => by rw [h]; simp
  have eqF : ∀ x y : UInt8, x ≠ y → (((x.toNat : Nat) : Int) == ((y.toNat : Nat) : Int)) = false := fun x y h => by
    rw [beq_eq_false_iff_ne]; intro h'; exact h (UInt8.toNat_inj.1 (by omega))
  have ET := Lib.hid eqT; have EF := Lib.hid eqF
  clear hW hh hT hrow hg2 hg6 old hS ex0 ex1 ey0 ey1 csA hbx eqT eqF
  go_enter Tryz.func122, Tryz.ntmps122
  go_wp2_with fail
  rw [HW.out]
  by_cases he : x0 = y0
  · have hq := ET.out _ _ he
    by_cases he2 : x0 = y1
    · have hq2 := ET.out _ _ he2
      have HE : Hid (endI T sent r 2 (i + 1) (j + 2) = T i j + 1) := Lib.hid (by rw [HE0.out, if_pos ⟨he, he2⟩])
      clear he he2 HE0
      go_quiet (fail)
      go_wp2_with fail
      go_quiet (fail)
      go_wp2_with fail
      go_quiet (fail)
      go_wp2_with fail
      go_quiet (fail)
      go_wp2_with fail
      go_ret
      exact ⟨ret_int HE.out.symm, (by repeat (first | exact hbW | refine below_drewN ?_ _))⟩
    · have hq2 := EF.out _ _ he2
      have HE : Hid (endI T sent r 2 (i + 1) (j + 2) = 200) := Lib.hid (by rw [HE0.out, if_neg (fun h => he2 h.2)])
      clear he he2 HE0
      go_quiet (fail)
      go_wp2_with fail
      go_quiet (fail)
      go_wp2_with fail
      go_quiet (fail)
      go_wp2_with fail
      go_quiet (fail)
      go_wp2_with fail
      go_quiet (fail)
      go_wp2_with fail
      go_ret
      exact ⟨ret_int HE.out.symm, (by repeat (first | exact hbW | refine below_drewN ?_ _))⟩
  · have hq := EF.out _ _ he
    have HE : Hid (endI T sent r 2 (i + 1) (j + 2) = 200) := Lib.hid (by rw [HE0.out, if_neg (fun h => he h.1)])
    clear he HE0
    go_quiet (fail)
    go_wp2_with fail
    go_quiet (fail)
    go_wp2_with fail
    go_quiet (fail)
    go_wp2_with fail
    go_quiet (fail)
    go_wp2_with fail
    go_quiet (fail)
    go_wp2_with fail
    go_ret
    exact ⟨ret_int HE.out.symm, (by repeat (first | exact hbW | refine below_drewN ?_ _))⟩

set_option maxRecDepth 100000 in
set_option maxHeartbeats 2000000 in
theorem ending3 (w : World) (Sb base : Nat) (r : List UInt8) (most : Int) (sent : List UInt8) (T : Nat → Nat → Int) (i j : Nat) (hS : Sheet w Sb base r most sent T) (hi : i ≤ sent.length) (hj : j ≤ r.length) :
    Calls Tryz.prog 122 #[.pointer (some ⟨Sb, 0, none⟩), .agg #[.int .i64 3, .int .i64 2, .int .i64 2], .int .i64 i, .int .i64 j] w fun e w' => e = .returned (.int .i16 (endI T sent r 3 i j)) ∧ Below w.heap.size w w' := by
  have hbx : Below w.heap.size w (w.alloc (.cells #[.int .i64 3, .int .i64 2, .int .i64 2] 178)) := (Below.refl _ w).alloc (Nat.le_refl _) _
  by_cases hi1 : i < 2
  · have HE : Hid (endI T sent r 3 i j = 200) := Lib.hid (by simp [endI]; omega)
    go_enter Tryz.func122, Tryz.ntmps122
    go_wp2_with fail
    go_ret
    exact ⟨ret_int HE.out.symm, hbx⟩
  by_cases hj1 : j < 2
  · have HE : Hid (endI T sent r 3 i j = 200) := Lib.hid (by simp [endI]; omega)
    go_enter Tryz.func122, Tryz.ntmps122
    go_wp2_with fail
    go_ret
    exact ⟨ret_int HE.out.symm, hbx⟩
  obtain ⟨i, rfl⟩ : ∃ i', i = i' + 2 := ⟨i - 2, by omega⟩
  obtain ⟨j, rfl⟩ : ∃ j', j = j' + 2 := ⟨j - 2, by omega⟩
  have hlen := hS.len
  have hlenr := hS.lenr
  obtain ⟨C, sv, hh, hC, h0, h1, h2, hrow, hT⟩ := hS.lay
  have hft := hS.fits i j (by omega) (by omega)
  obtain ⟨g, cap, cur, rfl, hg1, hg2, hg3, hg4, hg5, hg6⟩ : ∃ g cap cur, sv = .slice (some ⟨g, 0, none⟩) sent.length cap ∧ base ≤ g ∧ w.heap[g]? = some (.cells cur 5 (0, 0)) ∧ sent.length ≤ cap ∧ cap ≤ maxLen ∧ cur.size = cap * 1 ∧ cur.toList.take (sent.length * 1) = sent.map encU := by
    rcases hrow.2 with ⟨_, h⟩ | h
    · omega
    · exact h
  have hSb : Sb < w.heap.size := Nat.lt_of_lt_of_le hS.below hS.small
  have hgs : g < w.heap.size := (Array.getElem?_eq_some_iff.1 hg2).1
  have old : ∀ b o, b < w.heap.size → (w.alloc (.cells #[.int .i64 3, .int .i64 2, .int .i64 2] 178)).cell? ⟨b, o, none⟩ = w.cell? ⟨b, o, none⟩ := fun b o hb => hbx.cell (p := ⟨b, o, none⟩) hb
  obtain ⟨W, hW⟩ : ∃ W, w.alloc (.cells #[.int .i64 3, .int .i64 2, .int .i64 2] 178) = W := ⟨_, rfl⟩
  have c0 : W.cell? ⟨Sb, 0, none⟩ = some (.string (B r)) := by rw [← hW, old _ _ hSb, cell_of_heap hh]; exact h0
  have c2 : W.cell? ⟨Sb, 2, none⟩ = some (.slice (some ⟨g, 0, none⟩) sent.length cap) := by rw [← hW, old _ _ hSb, cell_of_heap hh]; exact h2
  have cT : W.cell? ⟨Sb, 3 + i * 101 + j, none⟩ = some (.int .i16 (T i j)) := by rw [← hW, old _ _ hSb, cell_of_heap hh]; exact hT i j (by omega) (by omega)
  have csA : ∀ k, k < sent.length → W.cell? ⟨g, k, none⟩ = some (.int .u8 (sent.getD k 0).toNat) := by
    intro k hk
    rw [← hW, old _ _ hgs]
    have := hrow.cells (g := g) rfl k (encU (sent.getD k 0)) (by simp [List.getElem?_eq_getElem hk])
    rwa [show (⟨g, 0, none⟩ : Addr).add k = ⟨g, k, none⟩ from by unfold Addr.add; split <;> simp_all] at this
  have cs := csA i (by omega)
  have cs1 := csA (i + 1) (by omega)
  have p0 : W.cell? ⟨w.heap.size, 0, none⟩ = some (.int .i64 3) := by clear c0 c2 cT cs csA cs1; subst hW; go_simp
  have p1 : W.cell? ⟨w.heap.size, 1, none⟩ = some (.int .i64 2) := by clear p0 c0 c2 cT cs csA cs1; subst hW; go_simp
  have p2 : W.cell? ⟨w.heap.size, 2, none⟩ = some (.int .i64 2) := by clear p0 p1 c0 c2 cT cs csA cs1; subst hW; go_simp
  have a1 : IntKind.i64.wrap ((i : Int) + 2 - 2) = (i : Int) := by rw [IntWalk.i64_in _ (by omega)]; omega
  have a2 : IntKind.i64.wrap ((j : Int) + 2 - 2) = (j : Int) := by rw [IntWalk.i64_in _ (by omega)]; omega
  have a3 : IntKind.i16.wrap (T i j + 1) = T i j + 1 := i16_in _ (by omega)
  have hbW : Below w.heap.size w W := by rw [← hW]; exact hbx
  have HW := Lib.hid hW
  have hil : (i : Int) + 2 ≤ sent.length := by omega
  have hjl : ((j : Int) + 2) ≤ r.length := by omega
  have hss : ∀ W', (Instr.slice 9 (.string (B r)) (some (.int .i64 (j : Int))) (some (.int .i64 ((j : Int) + 2))) none).run Tryz.prog W' = .ok (.string (B [r.getD j 0, r.getD (j + 1) 0])) W' := fun W' => sslice_run W' r _ j (j + 2) (by omega) (by omega) (cut2 r j (by omega)) (j : Int) ((j : Int) + 2) rfl (by omega)
  have hsl : ∀ W', (Instr.slice 105 (.slice (some ⟨g, 0, none⟩) sent.length cap) (some (.int .i64 (i : Int))) (some (.int .i64 ((i : Int) + 2))) none).run Tryz.prog W' = .ok (.slice (some ⟨g, i, none⟩) 2 (cap - i)) W' := fun W' => by
    have := slice_run W' g sent.length cap i (i + 2) (by omega) (by omega) (by omega) (i : Int) ((i : Int) + 2) rfl (by omega)
    rwa [show i + 2 - i = 2 from by omega] at this
  obtain ⟨x0, ex0⟩ : ∃ x, sent.getD i 0 = x := ⟨_, rfl⟩
  obtain ⟨x1, ex1⟩ : ∃ x, sent.getD (i + 1) 0 = x := ⟨_, rfl⟩
  obtain ⟨y0, ey0⟩ : ∃ x, r.getD j 0 = x := ⟨_, rfl⟩
  obtain ⟨y1, ey1⟩ : ∃ x, r.getD (j + 1) 0 = x := ⟨_, rfl⟩
  rw [ex0] at cs
  rw [ey0, ey1] at hss
  rw [ex1] at cs1
  have HE0 : Hid (endI T sent r 3 (i + 2) (j + 2) = if x0 = y1 ∧ x1 = y0 then T i j + 1 else 200) := Lib.hid (by simp only [endI]; rw [if_neg (by decide), if_neg (by decide), if_neg (by decide), if_neg (by omega), show i + 2 - 2 = i from by omega, show i + 2 - 1 = i + 1 from by omega, show j + 2 - 2 = j from by omega, show j + 2 - 1 = j + 1 from by omega, ex0, ex1, ey0, ey1])
  have eqT : ∀ x y : UInt8, x = y → (((x.toNat : Nat) : Int) == ((y.toNat : Nat) : Int)) = true := fun x y h => by rw [h]; simp
  have eqF : ∀ x y : UInt8, x ≠ y → (((x.toNat : Nat) : Int) == ((y.toNat : Nat) : Int)) = false := fun x y h => by
    rw [beq_eq_false_iff_ne]; intro h'; exact h (UInt8.toNat_inj.1 (by omega))
  have ET := Lib.hid eqT; have EF := Lib.hid eqF
  clear hW hh hT hrow hg2 hg6 old hS ex0 ex1 ey0 ey1 csA hbx eqT eqF
  go_enter Tryz.func122, Tryz.ntmps122
  go_wp2_with fail
  rw [HW.out]
  by_cases he : x0 = y1
  · have hq := ET.out _ _ he
    by_cases he2 : x1 = y0
    · have hq2 := ET.out _ _ he2
      have HE : Hid (endI T sent r 3 (i + 2) (j + 2) = T i j + 1) := Lib.hid (by rw [HE0.out, if_pos ⟨he, he2⟩])
      clear he he2 HE0
      go_quiet (fail)
      go_wp2_with fail
      go_quiet (fail)
      go_wp2_with fail
      go_quiet (fail)
      go_wp2_with fail
      go_quiet (fail)
      go_wp2_with fail
      go_quiet (fail)
      go_wp2_with fail
      go_ret
      exact ⟨ret_int HE.out.symm, (by repeat (first | exact hbW | refine below_drewN ?_ _))⟩
    · have hq2 := EF.out _ _ he2
      have HE : Hid (endI T sent r 3 (i + 2) (j + 2) = 200) := Lib.hid (by rw [HE0.out, if_neg (fun h => he2 h.2)])
      clear he he2 HE0
      go_quiet (fail)
      go_wp2_with fail
      go_quiet (fail)
      go_wp2_with fail
      go_quiet (fail)
      go_wp2_with fail
      go_quiet (fail)
      go_wp2_with fail
      go_quiet (fail)
      go_wp2_with fail
      go_ret
      exact ⟨ret_int HE.out.symm, (by repeat (first | exact hbW | refine below_drewN ?_ _))⟩
  · have hq := EF.out _ _ he
    have HE : Hid (endI T sent r 3 (i + 2) (j + 2) = 200) := Lib.hid (by rw [HE0.out, if_neg (fun h => he h.1)])
    clear he HE0
    go_quiet (fail)
    go_wp2_with fail
    go_quiet (fail)
    go_wp2_with fail
    go_quiet (fail)
    go_wp2_with fail
    go_quiet (fail)
    go_wp2_with fail
    go_quiet (fail)
    go_wp2_with fail
    go_ret
    exact ⟨ret_int HE.out.symm, (by repeat (first | exact hbW | refine below_drewN ?_ _))⟩

end Go.Proofs.YtjbdmlpadoiicaaGreatDoor
