/- towerOf and validHaze of package ridge. -/
import Derived.Test.YtnacgogcbbpjmaaHA1
set_option linter.unusedVariables false
set_option linter.unusedSimpArgs false
namespace Go.Proofs.Ytnacgogcbbpjmaa
open Go Go.RowKit

structure Tw where
  id : Int
  x : Int
  y : Int
  h : Int
def Tw.nil : Tw := ⟨0, 0, 0, 0⟩
structure Hz where
  fr : Int
  to : Int
  far : Int
def Hz.nil : Hz := ⟨0, 0, 0⟩
def twV (t : Tw) : Value := .agg #[.int .i64 t.id, .int .i64 t.x, .int .i64 t.y, .int .i64 t.h]
/-- A slice of towers that reads as a list. -/
def TwRow (w : World) (v : Value) (l : List Tw) : Prop :=
  (∃ a cap, v = .slice a 0 cap ∧ l = []) ∨
  ∃ b off cap, v = .slice (some ⟨b, off, none⟩) l.length cap ∧ l.length ≤ cap ∧ b < w.heap.size ∧ ∀ i, i < l.length → w.cell? ⟨b, off + i * 4, none⟩ = some (.int .i64 (l.getD i .nil).id) ∧ w.cell? ⟨b, off + i * 4 + 1, none⟩ = some (.int .i64 (l.getD i .nil).x) ∧ w.cell? ⟨b, off + i * 4 + 2, none⟩ = some (.int .i64 (l.getD i .nil).y) ∧ w.cell? ⟨b, off + i * 4 + 3, none⟩ = some (.int .i64 (l.getD i .nil).h)
theorem TwRow.form {w : World} {v : Value} {l : List Tw} (h : TwRow w v l) : ∃ a cap, v = .slice a l.length cap ∧ ∀ i, i < l.length → ∃ b off, a = some ⟨b, off, none⟩ ∧ b < w.heap.size ∧ w.cell? ⟨b, off + i * 4, none⟩ = some (.int .i64 (l.getD i .nil).id) ∧ w.cell? ⟨b, off + i * 4 + 1, none⟩ = some (.int .i64 (l.getD i .nil).x) ∧ w.cell? ⟨b, off + i * 4 + 2, none⟩ = some (.int .i64 (l.getD i .nil).y) ∧ w.cell? ⟨b, off + i * 4 + 3, none⟩ = some (.int .i64 (l.getD i .nil).h) := by
  rcases h with ⟨a, cap, rfl, rfl⟩ | ⟨b, off, cap, rfl, hp, hb, hc⟩
  · exact ⟨a, cap, rfl, fun k hk => by simp at hk⟩
  · exact ⟨_, cap, rfl, fun k hk => ⟨b, off, rfl, hb, hc k hk⟩⟩
theorem TwRow.room {w : World} {a : Option Addr} {n cap : Nat} {l : List Tw} (h : TwRow w (.slice a n cap) l) (hl : 0 < l.length) : l.length ≤ cap := by
  rcases h with ⟨_, _, _, rfl⟩ | ⟨b, off, c, hv, hp, _⟩
  · simp at hl
  · cases hv; exact hp
theorem TwRow.keep {w w' : World} {v : Value} {l : List Tw} (h : TwRow w v l) (hb : Below w.heap.size w w') : TwRow w' v l := by
  rcases h with h | ⟨b, off, cap, rfl, hp, h1, hc⟩
  · exact .inl h
  · exact .inr ⟨b, off, cap, rfl, hp, Nat.lt_of_lt_of_le h1 hb.size, fun i hi => ⟨(hb.cell (p := ⟨b, _, none⟩) h1).trans (hc i hi).1, (hb.cell (p := ⟨b, _, none⟩) h1).trans (hc i hi).2.1, (hb.cell (p := ⟨b, _, none⟩) h1).trans (hc i hi).2.2.1, (hb.cell (p := ⟨b, _, none⟩) h1).trans (hc i hi).2.2.2⟩⟩
theorem TwRow.take {w : World} {b off n cap : Nat} {l : List Tw} (h : TwRow w (.slice (some ⟨b, off, none⟩) n cap) l) (k : Nat) (hk : k ≤ l.length) : TwRow w (.slice (some ⟨b, off, none⟩) k cap) (l.take k) := by
  have hlen : (l.take k).length = k := by simp; omega
  rcases h with ⟨_, _, hv, rfl⟩ | ⟨b', off', c, hv, hp, h1, hc⟩
  · obtain rfl : k = 0 := by simpa using hk
    exact .inl ⟨_, _, rfl, by simp⟩
  · cases hv
    refine .inr ⟨b, off, cap, by rw [hlen], by omega, h1, fun i hi => ?_⟩
    rw [hlen] at hi
    have e : (l.take k).getD i .nil = l.getD i .nil := by
      rw [List.getD_eq_getElem?_getD, List.getElem?_take_of_lt hi, List.getD_eq_getElem?_getD]
    rw [e]; exact hc i (by omega)
def HzRow (w : World) (v : Value) (l : List Hz) : Prop :=
  (∃ a cap, v = .slice a 0 cap ∧ l = []) ∨
  ∃ b off cap, v = .slice (some ⟨b, off, none⟩) l.length cap ∧ b < w.heap.size ∧ ∀ i, i < l.length → w.cell? ⟨b, off + i * 3, none⟩ = some (.int .i64 (l.getD i .nil).fr) ∧ w.cell? ⟨b, off + i * 3 + 1, none⟩ = some (.int .i64 (l.getD i .nil).to) ∧ w.cell? ⟨b, off + i * 3 + 2, none⟩ = some (.int .i64 (l.getD i .nil).far)
theorem HzRow.form {w : World} {v : Value} {l : List Hz} (h : HzRow w v l) : ∃ a cap, v = .slice a l.length cap ∧ ∀ i, i < l.length → ∃ b off, a = some ⟨b, off, none⟩ ∧ b < w.heap.size ∧ w.cell? ⟨b, off + i * 3, none⟩ = some (.int .i64 (l.getD i .nil).fr) ∧ w.cell? ⟨b, off + i * 3 + 1, none⟩ = some (.int .i64 (l.getD i .nil).to) ∧ w.cell? ⟨b, off + i * 3 + 2, none⟩ = some (.int .i64 (l.getD i .nil).far) := by
  rcases h with ⟨a, cap, rfl, rfl⟩ | ⟨b, off, cap, rfl, hb, hc⟩
  · exact ⟨a, cap, rfl, fun k hk => by simp at hk⟩
  · exact ⟨_, cap, rfl, fun k hk => ⟨b, off, rfl, hb, hc k hk⟩⟩
theorem HzRow.keep {w w' : World} {v : Value} {l : List Hz} (h : HzRow w v l) (hb : Below w.heap.size w w') : HzRow w' v l := by
  rcases h with h | ⟨b, off, cap, rfl, h1, hc⟩
  · exact .inl h
  · exact .inr ⟨b, off, cap, rfl, Nat.lt_of_lt_of_le h1 hb.size, fun i hi => ⟨(hb.cell (p := ⟨b, _, none⟩) h1).trans (hc i hi).1, (hb.cell (p := ⟨b, _, none⟩) h1).trans (hc i hi).2.1, (hb.cell (p := ⟨b, _, none⟩) h1).trans (hc i hi).2.2⟩⟩
theorem tdrop_at {l : List Tw} {k : Nat} (hk : k < l.length) : l.drop k = l.getD k .nil :: l.drop (k + 1) := by
  rw [List.getD_eq_getElem?_getD, List.getElem?_eq_getElem hk, List.drop_eq_getElem_cons hk]; rfl
theorem hdrop_at {l : List Hz} {k : Nat} (hk : k < l.length) : l.drop k = l.getD k .nil :: l.drop (k + 1) := by
  rw [List.getD_eq_getElem?_getD, List.getElem?_eq_getElem hk, List.drop_eq_getElem_cons hk]; rfl
theorem info_tw : (Try.prog.info? 48).map (·.size) = some 4 := by kernel_rfl
/-- The tower with an ID. -/
def twF (l : List Tw) (id : Int) : Option Tw := l.find? fun t => t.id == id
theorem find_cons (t : Tw) (l : List Tw) (id : Int) : ((t :: l).find? fun t => t.id == id) = if t.id == id then some t else l.find? fun t => t.id == id := by
  rw [List.find?_cons]
  cases h : (t.id == id) <;> simp
def twO (x : Option Tw) : Value := match x with
  | some t => .tuple #[twV t, .bool true]
  | none => .tuple #[.agg #[.int .i64 0, .int .i64 0, .int .i64 0, .int .i64 0], .bool false]
theorem tw_results {tmps : Array Value} {w : World} {R : Nat} {a b c d e : Value} (h : tmps.getD 4 undef = .pointer (some ⟨R, 0, none⟩)) (h5 : tmps.getD 5 undef = e) (hg : w.heap[R]? = some (.cells #[a, b, c, d] 48 (0, 0))) : (results Try.f62 tmps).run Try.prog w = .ok (.tuple #[.agg #[a, b, c, d], e]) w := by
  have h' : tmps[4]?.getD undef = .pointer (some ⟨R, 0, none⟩) := by simpa using h
  have h5' : tmps[5]?.getD undef = e := by simpa using h5
  have q0 := cellH hg 0
  have q1 := cellH hg 1
  have q2 := cellH hg 2
  have q3 := cellH hg 3
  simp at q0 q1 q2 q3
  simp [results, Try.results62, asAddr, h', h5', q0, q1, q2, q3, go_sem]

set_option maxRecDepth 100000 in
set_option maxHeartbeats 1000000 in
theorem towerOf_any (v : Value) (l : List Tw) (id : Int) (w : World) (hv : TwRow w v l) (hl : l.length ≤ 9223372036854775807) :
    Calls Try.prog 62 #[v, .int .i64 id] w fun e w' => e = .returned (twO (twF l id)) ∧ Below w.heap.size w w' := by
  obtain ⟨a, cap, rfl, hc⟩ := hv.form
  have HC := Lib.hid hc
  have HV : Hid (twF l id = l.find? fun t => t.id == id) := Lib.hid rfl
  have HB0 := Lib.hid ((Below.refl _ w).alloc (Nat.le_refl w.heap.size) (.cells #[.int .i64 0, .int .i64 0, .int .i64 0, .int .i64 0] 48))
  have HR0 : Hid ((w.alloc (.cells #[.int .i64 0, .int .i64 0, .int .i64 0, .int .i64 0] 48)).heap[w.heap.size]? = some (.cells #[.int .i64 0, .int .i64 0, .int .i64 0, .int .i64 0] 48 (0, 0))) := Lib.hid (heap_alloc_new _ _)
  clear hc hv
  go_enter Try.func62, Try.ntmps62
  go_wp2_with fail
  go_loopw [10] (fun i wr => ∃ (k : Nat), k ≤ l.length ∧ i = .int .i64 k ∧ Hid (twF l id = (l.drop k).find? fun t => t.id == id) ∧ Hid (Below w.heap.size w wr) ∧ wr.heap[w.heap.size]? = some (.cells #[.int .i64 0, .int .i64 0, .int .i64 0, .int .i64 0] 48 (0, 0))) (fun i _ => l.length - (intOf i).toNat)
  case atStart => exact ⟨0, Nat.zero_le _, rfl, HV, HB0, HR0.out⟩
  case round =>
    obtain ⟨k, hk, rfl, hT, hB, hR⟩ := hrel
    have r0 := cellH hR 0
    have r1 := cellH hR 1
    have r2 := cellH hR 2
    have r3 := cellH hR 3
    have rf := freeH hR
    simp at r0 r1 r2 r3
    have HR := Lib.hid hR
    by_cases hkl : k < l.length
    · obtain ⟨b, off, rfl, hb, c0, c1, c2, c3⟩ := HC.out k hkl
      have hki : (k : Int) < l.length := by omega
      have hk0 : (0 : Int) ≤ k := by omega
      have e0 := (hB.out.cell (p := ⟨b, _, none⟩) hb).trans c0
      have e1 := (hB.out.cell (p := ⟨b, _, none⟩) hb).trans c1
      have e2 := (hB.out.cell (p := ⟨b, _, none⟩) hb).trans c2
      have e3 := (hB.out.cell (p := ⟨b, _, none⟩) hb).trans c3
      have hD : Hid (((l.drop k).find? fun t => t.id == id) = if (l.getD k .nil).id == id then some (l.getD k .nil) else (l.drop (k + 1)).find? fun t => t.id == id) := Lib.hid (by
        rw [tdrop_at hkl]; exact find_cons _ _ _)
      obtain ⟨⟨ti, tx, ty, th⟩, hx⟩ : ∃ x, l.getD k .nil = x := ⟨_, rfl⟩
      rw [hx] at e0 e1 e2 e3 hD
      simp only at e0 e1 e2 e3 hD
      have HB1 : Hid (∀ o, Below w.heap.size w (wr.alloc o)) := Lib.hid fun o => hB.out.alloc hB.out.size o
      have hws : w.heap.size < wr.heap.size := (Array.getElem?_eq_some_iff.1 hR).1
      have hwn : w.heap.size ≠ wr.heap.size := by omega
      have HR1 : Hid (∀ o, (wr.alloc o).heap[w.heap.size]? = some (.cells #[.int .i64 0, .int .i64 0, .int .i64 0, .int .i64 0] 48 (0, 0))) := Lib.hid fun o => (gNe _ _ _ hwn).trans hR
      clear c0 c1 c2 c3 hb hx hR
      by_cases q : ti = id
      · have HN : Hid (twF l id = some ⟨ti, tx, ty, th⟩) := Lib.hid (by rw [hT.out, hD.out, if_pos (by simpa using q)])
        subst q
        clear hD
        have HNB := Lib.hid ((gNe ((((wr.setCell ⟨w.heap.size, 0, none⟩ (.int .i64 ti)).setCell ⟨w.heap.size, 1, none⟩ (.int .i64 tx)).setCell ⟨w.heap.size, 2, none⟩ (.int .i64 ty)).setCell ⟨w.heap.size, 3, none⟩ (.int .i64 th)) (.cells #[.int .i64 ti, .int .i64 tx, .int .i64 ty, .int .i64 th] 48) w.heap.size (by simpa using hwn)).trans (heap_same (heap_same (heap_same (heap_same HR.out 0 (.int .i64 ti)) 1 (.int .i64 tx)) 2 (.int .i64 ty)) 3 (.int .i64 th)))
        have HBB := Lib.hid (((((hB.out.setCell (p := ⟨w.heap.size, 0, none⟩) (by simp) (.int .i64 ti)).setCell (p := ⟨w.heap.size, 1, none⟩) (by simp) (.int .i64 tx)).setCell (p := ⟨w.heap.size, 2, none⟩) (by simp) (.int .i64 ty)).setCell (p := ⟨w.heap.size, 3, none⟩) (by simp) (.int .i64 th)).alloc (by simpa using Nat.le_of_lt hws) (.cells #[.int .i64 ti, .int .i64 tx, .int .i64 ty, .int .i64 th] 48))
        go_wp2_with fail
        refine bodyPost_ret (tw_results (a := .int .i64 ti) (b := .int .i64 tx) (c := .int .i64 ty) (d := .int .i64 th) (e := .bool true) rfl rfl HNB.out) rfl ?_
        exact ⟨by rw [HN.out]; rfl, HBB.out⟩
      · have HN : Hid (twF l id = (l.drop (k + 1)).find? fun t => t.id == id) := Lib.hid (by rw [hT.out, hD.out, if_neg (by simpa using q)])
        have g0 : (ti == id) = false := by simpa using q
        clear hD q
        go_wp2_with fail
        go_roundw
        case rel => exact ⟨k + 1, by omega, by go_num, HN, HB1.out _, HR1.out _⟩
        case measure => simp [intOf]; omega
    · obtain rfl : k = l.length := by omega
      have HN : Hid (twF l id = none) := Lib.hid (by rw [hT.out, List.drop_length]; rfl)
      have HNB := Lib.hid (heap_same (heap_same (heap_same (heap_same hR 0 (.int .i64 0)) 1 (.int .i64 0)) 2 (.int .i64 0)) 3 (.int .i64 0))
      have HBB := Lib.hid ((((hB.out.setCell (p := ⟨w.heap.size, 0, none⟩) (by simp) (.int .i64 0)).setCell (p := ⟨w.heap.size, 1, none⟩) (by simp) (.int .i64 0)).setCell (p := ⟨w.heap.size, 2, none⟩) (by simp) (.int .i64 0)).setCell (p := ⟨w.heap.size, 3, none⟩) (by simp) (.int .i64 0))
      clear hR
      go_wp2_with fail
      refine bodyPost_ret (tw_results (a := .int .i64 0) (b := .int .i64 0) (c := .int .i64 0) (d := .int .i64 0) (e := .bool false) rfl rfl HNB.out) rfl ?_
      exact ⟨by rw [HN.out]; rfl, HBB.out⟩

theorem validTick_any (n : Int) (w : World) : Calls Try.prog 40 #[.int .i64 n] w fun e w' => e = .returned (.bool (wiB n 0 1048576)) ∧ w' = w := by
  go_enter Try.func40, Try.ntmps40
  go_wp2_with fail
  refine (within_any _ _ _ _).mono ?_
  rintro e w1 ⟨rfl, rfl⟩
  go_wp2_with fail
  go_ret
  exact ⟨rfl, rfl⟩
/-- Haze is right behind a minute. -/
def hzB : Int → List Hz → Bool
  | _, [] => true
  | last, h :: l => decide (last < h.fr) && decide (h.fr ≤ h.to) && wiB h.to 0 1048576 && wiB h.far 0 100 && hzB h.to l
set_option maxRecDepth 100000 in
set_option maxHeartbeats 1000000 in
theorem validHaze_any (v : Value) (l : List Hz) (w : World) (hv : HzRow w v l) (hl : l.length ≤ 9223372036854775807) :
    Calls Try.prog 63 #[v] w fun e w' => e = .returned (.bool (hzB (-1) l)) ∧ Below w.heap.size w w' := by
  obtain ⟨a, cap, rfl, hc⟩ := hv.form
  have HC := Lib.hid hc
  clear hc hv
  go_enter Try.func63, Try.ntmps63
  go_wp2_with fail
  go_loopw [3, 8] (fun e i wr => ∃ (k : Nat) (en : Int), k ≤ l.length ∧ i = .int .i64 k ∧ e = .int .i64 en ∧ Hid (hzB (-1) l = hzB en (l.drop k)) ∧ Hid (Below w.heap.size w wr)) (fun _ i _ => l.length - (intOf i).toNat)
  case atStart => exact ⟨0, -1, Nat.zero_le _, rfl, rfl, Lib.hid rfl, Lib.hid (Below.refl _ _)⟩
  case round =>
    obtain ⟨k, en, hk, rfl, rfl, hT, hB⟩ := hrel
    by_cases hkl : k < l.length
    · obtain ⟨b, off, rfl, hb, c0, c1, c2⟩ := HC.out k hkl
      have hki : (k : Int) < l.length := by omega
      have hk0 : (0 : Int) ≤ k := by omega
      have e0 := (hB.out.cell (p := ⟨b, _, none⟩) hb).trans c0
      have e1 := (hB.out.cell (p := ⟨b, _, none⟩) hb).trans c1
      have e2 := (hB.out.cell (p := ⟨b, _, none⟩) hb).trans c2
      have hD : Hid (hzB en (l.drop k) = (decide (en < (l.getD k .nil).fr) && decide ((l.getD k .nil).fr ≤ (l.getD k .nil).to) && wiB (l.getD k .nil).to 0 1048576 && wiB (l.getD k .nil).far 0 100 && hzB (l.getD k .nil).to (l.drop (k + 1)))) := Lib.hid (by rw [hdrop_at hkl]; rfl)
      obtain ⟨⟨lo, hi, fa⟩, hx⟩ : ∃ x, l.getD k .nil = x := ⟨_, rfl⟩
      rw [hx] at e0 e1 e2 hD
      simp only at e0 e1 e2 hD
      have HB1 : Hid (∀ o, Below w.heap.size w (wr.alloc o)) := Lib.hid fun o => hB.out.alloc hB.out.size o
      have HT1 := Lib.hid (validTick_any hi)
      have HW1 := Lib.hid (within_any fa 0 100)
      clear c0 c1 c2 hb hx
      by_cases q1 : lo ≤ en
      · have HN : Hid (hzB (-1) l = false) := Lib.hid (by rw [hT.out, hD.out, decide_eq_false (p := en < lo) (by omega)]; rfl)
        clear hD
        go_wp2_with fail
        go_ret
        exact ⟨ret_bool' HN.out.symm, HB1.out _⟩
      have p1 : decide (lo ≤ en) = false := decide_eq_false q1
      by_cases q2 : hi < lo
      · have HN : Hid (hzB (-1) l = false) := Lib.hid (by rw [hT.out, hD.out, decide_eq_false (p := lo ≤ hi) (by omega)]; simp)
        clear hD q1
        go_wp2_with fail
        go_ret
        exact ⟨ret_bool' HN.out.symm, HB1.out _⟩
      have p2 : decide (hi < lo) = false := decide_eq_false q2
      have hD2 : Hid (hzB en (l.drop k) = (wiB hi 0 1048576 && wiB fa 0 100 && hzB hi (l.drop (k + 1)))) := Lib.hid (by rw [hD.out, decide_eq_true (p := en < lo) (by omega), decide_eq_true (p := lo ≤ hi) (by omega)]; simp)
      clear hD q1 q2
      cases q3 : wiB hi 0 1048576
      · rw [q3] at HT1 hD2
        have HN : Hid (hzB (-1) l = false) := Lib.hid (by rw [hT.out, hD2.out]; rfl)
        clear hD2 q3
        go_wp2_with fail
        refine (HT1.out _).mono ?_
        rintro e w1 ⟨rfl, rfl⟩
        go_wp2_with fail
        go_ret
        exact ⟨ret_bool' HN.out.symm, HB1.out _⟩
      rw [q3] at HT1 hD2
      cases q4 : wiB fa 0 100
      · rw [q4] at HW1 hD2
        have HN : Hid (hzB (-1) l = false) := Lib.hid (by rw [hT.out, hD2.out]; rfl)
        clear hD2 q3 q4
        go_wp2_with fail
        refine (HT1.out _).mono ?_
        rintro e w1 ⟨rfl, rfl⟩
        go_wp2_with fail
        refine (HW1.out _).mono ?_
        rintro e w1 ⟨rfl, rfl⟩
        go_wp2_with fail
        go_ret
        exact ⟨ret_bool' HN.out.symm, HB1.out _⟩
      rw [q4] at HW1 hD2
      have HN : Hid (hzB (-1) l = hzB hi (l.drop (k + 1))) := Lib.hid (by rw [hT.out, hD2.out]; simp)
      clear hD2 q3 q4
      go_wp2_with fail
      refine (HT1.out _).mono ?_
      rintro e w1 ⟨rfl, rfl⟩
      go_wp2_with fail
      refine (HW1.out _).mono ?_
      rintro e w1 ⟨rfl, rfl⟩
      go_wp2_with fail
      go_roundw
      case rel => exact ⟨k + 1, hi, by omega, by go_num, rfl, HN, HB1.out _⟩
      case measure => simp [intOf]; omega
    · obtain rfl : k = l.length := by omega
      have HN : Hid (hzB (-1) l = true) := Lib.hid (by rw [hT.out, List.drop_length]; rfl)
      go_wp2_with fail
      go_ret
      exact ⟨ret_bool' HN.out.symm, hB.out⟩
end Go.Proofs.Ytnacgogcbbpjmaa
