/- Package circle: rows of circles and of checks; circleOf, checkOf. -/
import Derived.Test.YtebdboacmeafaaaGreatCAA
set_option linter.unusedVariables false
set_option linter.unusedSimpArgs false
namespace Go.Proofs.YtebdboacmeafaaaGreat
open Go Go.RowKit

structure Ci where
  id : Int
  x : Int
  y : Int
  f : Int
  t : Int
  lo : Int
  hi : Int
  dr : Int
def Ci.nil : Ci := ⟨0, 0, 0, 0, 0, 0, 0, 0⟩
instance : Inhabited Ci := ⟨Ci.nil⟩
def Ci.enc (x : Ci) : List Value := [.int .i64 x.id, .int .i64 x.x, .int .i64 x.y, .int .i64 x.f, .int .i64 x.t, .int .i64 x.lo, .int .i64 x.hi, .int .i64 x.dr]
abbrev Ci.val (x : Ci) : Value := .agg #[.int .i64 x.id, .int .i64 x.x, .int .i64 x.y, .int .i64 x.f, .int .i64 x.t, .int .i64 x.lo, .int .i64 x.hi, .int .i64 x.dr]
/-- The cells of one element. -/
def CiAt (w : World) (b off i : Nat) (x : Ci) : Prop := w.cell? ⟨b, off + i * 8, none⟩ = some (.int .i64 x.id) ∧ w.cell? ⟨b, off + i * 8 + 1, none⟩ = some (.int .i64 x.x) ∧ w.cell? ⟨b, off + i * 8 + 2, none⟩ = some (.int .i64 x.y) ∧ w.cell? ⟨b, off + i * 8 + 3, none⟩ = some (.int .i64 x.f) ∧ w.cell? ⟨b, off + i * 8 + 4, none⟩ = some (.int .i64 x.t) ∧ w.cell? ⟨b, off + i * 8 + 5, none⟩ = some (.int .i64 x.lo) ∧ w.cell? ⟨b, off + i * 8 + 6, none⟩ = some (.int .i64 x.hi) ∧ w.cell? ⟨b, off + i * 8 + 7, none⟩ = some (.int .i64 x.dr)
def CiRow (w : World) (v : Value) (l : List Ci) : Prop :=
  (∃ a cap, v = .slice a 0 cap ∧ l = []) ∨
  ∃ b off cap, v = .slice (some ⟨b, off, none⟩) l.length cap ∧ l.length ≤ cap ∧ b < w.heap.size ∧ ∀ i, i < l.length → CiAt w b off i (l.getD i .nil)
theorem CiRow.form {w : World} {v : Value} {l : List Ci} (h : CiRow w v l) : ∃ a cap, v = .slice a l.length cap ∧ ∀ i, i < l.length → ∃ b off, a = some ⟨b, off, none⟩ ∧ b < w.heap.size ∧ CiAt w b off i (l.getD i .nil) := by
  rcases h with ⟨a, cap, rfl, rfl⟩ | ⟨b, off, cap, rfl, hp, hb, hc⟩
  · exact ⟨a, cap, rfl, fun k hk => by simp at hk⟩
  · exact ⟨_, cap, rfl, fun k hk => ⟨b, off, rfl, hb, hc k hk⟩⟩
theorem CiAt.keep {w w' : World} {b off i : Nat} {x : Ci} (h : CiAt w b off i x) {B : Nat} (hb : Below B w w') (hlt : b < B) : CiAt w' b off i x := by
  obtain ⟨h0, h1, h2, h3, h4, h5, h6, h7⟩ := h
  exact ⟨(hb.cell (p := ⟨b, _, none⟩) hlt).trans h0, (hb.cell (p := ⟨b, _, none⟩) hlt).trans h1, (hb.cell (p := ⟨b, _, none⟩) hlt).trans h2, (hb.cell (p := ⟨b, _, none⟩) hlt).trans h3, (hb.cell (p := ⟨b, _, none⟩) hlt).trans h4, (hb.cell (p := ⟨b, _, none⟩) hlt).trans h5, (hb.cell (p := ⟨b, _, none⟩) hlt).trans h6, (hb.cell (p := ⟨b, _, none⟩) hlt).trans h7⟩
theorem CiRow.keep {w w' : World} {v : Value} {l : List Ci} (h : CiRow w v l) (hb : Below w.heap.size w w') : CiRow w' v l := by
  rcases h with h | ⟨b, off, cap, rfl, hp, h1, hc⟩
  · exact .inl h
  · exact .inr ⟨b, off, cap, rfl, hp, Nat.lt_of_lt_of_le h1 hb.size, fun i hi => (hc i hi).keep hb h1⟩
theorem CiRow.take {w : World} {b off cap n : Nat} {l : List Ci} (h : CiRow w (.slice (some ⟨b, off, none⟩) n cap) l) (k : Nat) (hk : k ≤ l.length) : CiRow w (.slice (some ⟨b, off, none⟩) k cap) (l.take k) := by
  rcases h with ⟨_, _, hv, rfl⟩ | ⟨b', off', c, hv, hp, h1, hc⟩
  · obtain rfl : k = 0 := by simpa using hk
    exact .inl ⟨_, _, rfl, rfl⟩
  · cases hv
    have hl : (l.take k).length = k := by rw [List.length_take]; omega
    refine .inr ⟨b, off, cap, by rw [hl], by omega, h1, fun i hi => ?_⟩
    rw [hl] at hi
    have := hc i (by omega)
    rwa [List.getD_eq_getElem?_getD, List.getElem?_take_of_lt hi, ← List.getD_eq_getElem?_getD]
structure Ck where
  id : Int
  c : Int
  t : Int
  x : Int
  y : Int
  s : Int
  sl : Int
def Ck.nil : Ck := ⟨0, 0, 0, 0, 0, 0, 0⟩
instance : Inhabited Ck := ⟨Ck.nil⟩
def Ck.enc (x : Ck) : List Value := [.int .i64 x.id, .int .i64 x.c, .int .i64 x.t, .int .i64 x.x, .int .i64 x.y, .int .i64 x.s, .int .i64 x.sl]
abbrev Ck.val (x : Ck) : Value := .agg #[.int .i64 x.id, .int .i64 x.c, .int .i64 x.t, .int .i64 x.x, .int .i64 x.y, .int .i64 x.s, .int .i64 x.sl]
/-- The cells of one element. -/
def CkAt (w : World) (b off i : Nat) (x : Ck) : Prop := w.cell? ⟨b, off + i * 7, none⟩ = some (.int .i64 x.id) ∧ w.cell? ⟨b, off + i * 7 + 1, none⟩ = some (.int .i64 x.c) ∧ w.cell? ⟨b, off + i * 7 + 2, none⟩ = some (.int .i64 x.t) ∧ w.cell? ⟨b, off + i * 7 + 3, none⟩ = some (.int .i64 x.x) ∧ w.cell? ⟨b, off + i * 7 + 4, none⟩ = some (.int .i64 x.y) ∧ w.cell? ⟨b, off + i * 7 + 5, none⟩ = some (.int .i64 x.s) ∧ w.cell? ⟨b, off + i * 7 + 6, none⟩ = some (.int .i64 x.sl)
def CkRow (w : World) (v : Value) (l : List Ck) : Prop :=
  (∃ a cap, v = .slice a 0 cap ∧ l = []) ∨
  ∃ b off cap, v = .slice (some ⟨b, off, none⟩) l.length cap ∧ l.length ≤ cap ∧ b < w.heap.size ∧ ∀ i, i < l.length → CkAt w b off i (l.getD i .nil)
theorem CkRow.form {w : World} {v : Value} {l : List Ck} (h : CkRow w v l) : ∃ a cap, v = .slice a l.length cap ∧ ∀ i, i < l.length → ∃ b off, a = some ⟨b, off, none⟩ ∧ b < w.heap.size ∧ CkAt w b off i (l.getD i .nil) := by
  rcases h with ⟨a, cap, rfl, rfl⟩ | ⟨b, off, cap, rfl, hp, hb, hc⟩
  · exact ⟨a, cap, rfl, fun k hk => by simp at hk⟩
  · exact ⟨_, cap, rfl, fun k hk => ⟨b, off, rfl, hb, hc k hk⟩⟩
theorem CkAt.keep {w w' : World} {b off i : Nat} {x : Ck} (h : CkAt w b off i x) {B : Nat} (hb : Below B w w') (hlt : b < B) : CkAt w' b off i x := by
  obtain ⟨h0, h1, h2, h3, h4, h5, h6⟩ := h
  exact ⟨(hb.cell (p := ⟨b, _, none⟩) hlt).trans h0, (hb.cell (p := ⟨b, _, none⟩) hlt).trans h1, (hb.cell (p := ⟨b, _, none⟩) hlt).trans h2, (hb.cell (p := ⟨b, _, none⟩) hlt).trans h3, (hb.cell (p := ⟨b, _, none⟩) hlt).trans h4, (hb.cell (p := ⟨b, _, none⟩) hlt).trans h5, (hb.cell (p := ⟨b, _, none⟩) hlt).trans h6⟩
theorem CkRow.keep {w w' : World} {v : Value} {l : List Ck} (h : CkRow w v l) (hb : Below w.heap.size w w') : CkRow w' v l := by
  rcases h with h | ⟨b, off, cap, rfl, hp, h1, hc⟩
  · exact .inl h
  · exact .inr ⟨b, off, cap, rfl, hp, Nat.lt_of_lt_of_le h1 hb.size, fun i hi => (hc i hi).keep hb h1⟩
theorem CkRow.take {w : World} {b off cap n : Nat} {l : List Ck} (h : CkRow w (.slice (some ⟨b, off, none⟩) n cap) l) (k : Nat) (hk : k ≤ l.length) : CkRow w (.slice (some ⟨b, off, none⟩) k cap) (l.take k) := by
  rcases h with ⟨_, _, hv, rfl⟩ | ⟨b', off', c, hv, hp, h1, hc⟩
  · obtain rfl : k = 0 := by simpa using hk
    exact .inl ⟨_, _, rfl, rfl⟩
  · cases hv
    have hl : (l.take k).length = k := by rw [List.length_take]; omega
    refine .inr ⟨b, off, cap, by rw [hl], by omega, h1, fun i hi => ?_⟩
    rw [hl] at hi
    have := hc i (by omega)
    rwa [List.getD_eq_getElem?_getD, List.getElem?_take_of_lt hi, ← List.getD_eq_getElem?_getD]
theorem setS {w W : World} {q : Nat} {t : TypeId} {cs : Array Value} (h : W.heap[q]? = some (Obj.cells cs t (0, 0)) ∧ Below w.heap.size w W) (hq : w.heap.size ≤ q) (j : Nat) (v : Value) :
    (W.setCell ⟨q, j, none⟩ v).heap[q]? = some (Obj.cells (cs.setIfInBounds j v) t (0, 0)) ∧ Below w.heap.size w (W.setCell ⟨q, j, none⟩ v) :=
  ⟨heap_same h.1 j v, h.2.setCell (p := ⟨q, j, none⟩) hq v⟩
theorem set8 {w W : World} {q : Nat} {t : TypeId} {x0 x1 x2 x3 x4 x5 x6 x7 : Value} (h : W.heap[q]? = some (Obj.cells #[x0, x1, x2, x3, x4, x5, x6, x7] t (0, 0))) (hb : Below w.heap.size w W) (hq : w.heap.size ≤ q) (y0 y1 y2 y3 y4 y5 y6 y7 : Value) :
    ((((((((W.setCell ⟨q, 0, none⟩ y0).setCell ⟨q, 1, none⟩ y1).setCell ⟨q, 2, none⟩ y2).setCell ⟨q, 3, none⟩ y3).setCell ⟨q, 4, none⟩ y4).setCell ⟨q, 5, none⟩ y5).setCell ⟨q, 6, none⟩ y6).setCell ⟨q, 7, none⟩ y7).heap[q]? = some (Obj.cells #[y0, y1, y2, y3, y4, y5, y6, y7] t (0, 0)) ∧ Below w.heap.size w ((((((((W.setCell ⟨q, 0, none⟩ y0).setCell ⟨q, 1, none⟩ y1).setCell ⟨q, 2, none⟩ y2).setCell ⟨q, 3, none⟩ y3).setCell ⟨q, 4, none⟩ y4).setCell ⟨q, 5, none⟩ y5).setCell ⟨q, 6, none⟩ y6).setCell ⟨q, 7, none⟩ y7) := by
  have s0 := setS ⟨h, hb⟩ hq 0 y0
  have s1 := setS s0 hq 1 y1
  have s2 := setS s1 hq 2 y2
  have s3 := setS s2 hq 3 y3
  have s4 := setS s3 hq 4 y4
  have s5 := setS s4 hq 5 y5
  have s6 := setS s5 hq 6 y6
  have s7 := setS s6 hq 7 y7
  simp only [List.setIfInBounds_toArray, List.set_cons_zero, List.set_cons_succ] at s7
  exact s7
theorem set7 {w W : World} {q : Nat} {t : TypeId} {x0 x1 x2 x3 x4 x5 x6 : Value} (h : W.heap[q]? = some (Obj.cells #[x0, x1, x2, x3, x4, x5, x6] t (0, 0))) (hb : Below w.heap.size w W) (hq : w.heap.size ≤ q) (y0 y1 y2 y3 y4 y5 y6 : Value) :
    (((((((W.setCell ⟨q, 0, none⟩ y0).setCell ⟨q, 1, none⟩ y1).setCell ⟨q, 2, none⟩ y2).setCell ⟨q, 3, none⟩ y3).setCell ⟨q, 4, none⟩ y4).setCell ⟨q, 5, none⟩ y5).setCell ⟨q, 6, none⟩ y6).heap[q]? = some (Obj.cells #[y0, y1, y2, y3, y4, y5, y6] t (0, 0)) ∧ Below w.heap.size w (((((((W.setCell ⟨q, 0, none⟩ y0).setCell ⟨q, 1, none⟩ y1).setCell ⟨q, 2, none⟩ y2).setCell ⟨q, 3, none⟩ y3).setCell ⟨q, 4, none⟩ y4).setCell ⟨q, 5, none⟩ y5).setCell ⟨q, 6, none⟩ y6) := by
  have s0 := setS ⟨h, hb⟩ hq 0 y0
  have s1 := setS s0 hq 1 y1
  have s2 := setS s1 hq 2 y2
  have s3 := setS s2 hq 3 y3
  have s4 := setS s3 hq 4 y4
  have s5 := setS s4 hq 5 y5
  have s6 := setS s5 hq 6 y6
  simp only [List.setIfInBounds_toArray, List.set_cons_zero, List.set_cons_succ] at s6
  exact s6
theorem info_ci8 : (Tryz.prog.info? 93).map (·.size) = some 8 := by kernel_rfl
theorem info_ck7 : (Tryz.prog.info? 67).map (·.size) = some 7 := by kernel_rfl
def ciF (l : List Ci) (id : Int) : Option Ci := l.find? fun x => x.id == id
def ckF (l : List Ck) (id : Int) : Option Ck := l.find? fun x => x.id == id
theorem ciF_hit {l : List Ci} {id : Int} {k : Nat} (hk : k < l.length) (hn : ∀ j, j < k → ((l.getD j .nil).id == id) = false) (h : ((l.getD k .nil).id == id) = true) : ciF l id = some (l.getD k .nil) := by
  unfold ciF
  rw [List.find?_eq_some_iff_getElem]
  refine ⟨h, k, hk, by rw [List.getD_eq_getElem?_getD, List.getElem?_eq_getElem hk]; rfl, fun j hj => ?_⟩
  have := hn j hj
  rw [List.getD_eq_getElem?_getD, List.getElem?_eq_getElem (by omega)] at this
  simpa using this
theorem ciF_miss {l : List Ci} {id : Int} (hn : ∀ j, j < l.length → ((l.getD j .nil).id == id) = false) : ciF l id = none := by
  unfold ciF
  rw [List.find?_eq_none]
  intro x hx
  obtain ⟨j, hj, rfl⟩ := List.getElem_of_mem hx
  have := hn j hj
  rw [List.getD_eq_getElem?_getD, List.getElem?_eq_getElem hj] at this
  simpa using this
set_option maxRecDepth 100000 in
set_option maxHeartbeats 4000000 in
theorem circleOf_any (v : Value) (l : List Ci) (id : Int) (w : World) (hv : CiRow w v l) (hl : l.length ≤ 1000000) :
    Calls Tryz.prog 46 #[v, .int .i64 id] w fun e w' => e = .returned (.tuple #[((ciF l id).getD .nil).val, .bool (ciF l id).isSome]) ∧ Below w.heap.size w w' := by
  obtain ⟨a, cap, rfl, hc⟩ := hv.form
  have HC := Lib.hid hc
  clear hc hv
  have HHIT := Lib.hid (fun k hk => ciF_hit (l := l) (id := id) (k := k) hk)
  have HMISS := Lib.hid (ciF_miss (l := l) (id := id))
  obtain ⟨R, hR⟩ : ∃ R, ciF l id = R := ⟨_, rfl⟩
  rw [hR] at HHIT HMISS ⊢
  clear hR
  have HA := Lib.hid (fun W' => cells1 w #[.int .i64 0, .int .i64 0, .int .i64 0, .int .i64 0, .int .i64 0, .int .i64 0, .int .i64 0, .int .i64 0] 93 (W := W'))
  have HB0 := Lib.hid (Below.refl (w.alloc (.cells #[.int .i64 0, .int .i64 0, .int .i64 0, .int .i64 0, .int .i64 0, .int .i64 0, .int .i64 0, .int .i64 0] 93)).heap.size (w.alloc (.cells #[.int .i64 0, .int .i64 0, .int .i64 0, .int .i64 0, .int .i64 0, .int .i64 0, .int .i64 0, .int .i64 0] 93)))
  obtain ⟨Z, hZ⟩ : ∃ Z, w.alloc (.cells #[.int .i64 0, .int .i64 0, .int .i64 0, .int .i64 0, .int .i64 0, .int .i64 0, .int .i64 0, .int .i64 0] 93) = Z := ⟨_, rfl⟩
  rw [hZ] at HA HB0
  have HZ := Lib.hid hZ
  clear hZ
  go_enter Tryz.func46, Tryz.ntmps46
  go_wp2_with fail
  rw [HZ.out]
  go_loopw [10] (fun i wr => ∃ (k : Nat), k ≤ l.length ∧ i = .int .i64 k ∧ Hid (Below Z.heap.size Z wr) ∧ Hid (∀ j, j < k → ((l.getD j .nil).id == id) = false)) (fun i _ => l.length - (intOf i).toNat)
  case atStart => exact ⟨0, Nat.zero_le _, rfl, HB0, Lib.hid (fun j hj => by omega)⟩
  case round =>
    obtain ⟨k, hk, rfl, hB, hN⟩ := hrel
    obtain ⟨z0, z1, zb⟩ := HA.out wr hB.out
    by_cases hkl : k < l.length
    · obtain ⟨b, off, rfl, hb, hat⟩ := HC.out k hkl
      obtain ⟨e0, e1, e2, e3, e4, e5, e6, e7⟩ := hat.keep zb hb
      have hki : (k : Int) < l.length := by omega
      have hk0 : (0 : Int) ≤ k := by omega
      obtain ⟨id', hid'⟩ : ∃ z, (l.getD k .nil).id = z := ⟨_, rfl⟩
      have HEL : Hid (l.getD k .nil = l.getD k .nil) := Lib.hid rfl
      have HH := HHIT.out k hkl hN.out
      have HNX : Hid (((l.getD k .nil).id == id) = false → ∀ j, j < k + 1 → ((l.getD j .nil).id == id) = false) := Lib.hid (fun h j hj => by
        by_cases e : j = k
        · subst e; exact h
        · exact hN.out j (by omega))
      rw [hid'] at HNX HH e0
      obtain ⟨X, hX⟩ : ∃ X, l.getD k .nil = X := ⟨_, rfl⟩
      rw [hX] at HH e1 e2 e3 e4 e5 e6 e7 hid'
      have HX := Lib.hid hid'
      obtain ⟨a0, a1, a2, a3, a4, a5, a6, a7⟩ := X
      simp only at e1 e2 e3 e4 e5 e6 e7 hid'
      subst hid'
      have HH2 := Lib.hid HH
      have HBA := Lib.hid (hB.out.alloc hB.out.size (.cells #[.int .i64 a0, .int .i64 a1, .int .i64 a2, .int .i64 a3, .int .i64 a4, .int .i64 a5, .int .i64 a6, .int .i64 a7] 93))
      have HKL := Lib.hid hkl
      have HZA : Hid (∀ W', Below Z.heap.size Z W' → W'.heap[w.heap.size]? = some (.cells #[.int .i64 0, .int .i64 0, .int .i64 0, .int .i64 0, .int .i64 0, .int .i64 0, .int .i64 0, .int .i64 0] 93 (0, 0)) ∧ Below w.heap.size w W') := Lib.hid (fun W' h => ⟨(HA.out W' h).1, (HA.out W' h).2.2⟩)
      clear hat hb hX HH z0 z1 zb
      cases hE : (a0 == id)
      · have HN2 := Lib.hid (HNX.out hE)
        go_wp2_with fail
        go_roundw
        case rel => exact ⟨k + 1, HKL.out, by go_num, HBA, HN2⟩
        case measure => have := HKL.out; simp [intOf]; omega
      · have HR := Lib.hid (HH2.out hE)
        obtain ⟨y0, yb⟩ := HZA.out _ HBA.out
        have HY0 := Lib.hid y0
        have HYB := Lib.hid yb
        have s0 := fun j => cellH y0 j
        have t0 := s0 0
        have t1 := s0 1; have t2 := s0 2; have t3 := s0 3; have t4 := s0 4; have t5 := s0 5; have t6 := s0 6; have t7 := s0 7
        have tf := freeH y0
        simp only [List.getElem?_toArray, List.getElem?_cons_zero, List.getElem?_cons_succ] at t0 t1 t2 t3 t4 t5 t6 t7
        clear s0 y0 yb
        go_wp2_with fail
        obtain ⟨z1, z2⟩ := set8 HY0.out HYB.out (Nat.le_refl _) (.int .i64 a0) (.int .i64 a1) (.int .i64 a2) (.int .i64 a3) (.int .i64 a4) (.int .i64 a5) (.int .i64 a6) (.int .i64 a7)
        refine bodyPost_ret (res_ct Tryz.results46 _ _ w.heap.size 93 #[.int .i64 a0, .int .i64 a1, .int .i64 a2, .int .i64 a3, .int .i64 a4, .int .i64 a5, .int .i64 a6, .int .i64 a7] (0, 0) _ rfl z1 Tryz.underlying93 rfl info_ci8) rfl ?_
        exact ⟨by rw [HR.out]; rfl, z2⟩
    · obtain rfl : k = l.length := by omega
      have HR := Lib.hid (HMISS.out hN.out)
      have HY0 := Lib.hid z0
      have HYB := Lib.hid zb
      have s0 := fun j => cellH z0 j
      have t0 := s0 0
      have t1 := s0 1; have t2 := s0 2; have t3 := s0 3; have t4 := s0 4; have t5 := s0 5; have t6 := s0 6; have t7 := s0 7
      have tf := freeH z0
      simp only [List.getElem?_toArray, List.getElem?_cons_zero, List.getElem?_cons_succ] at t0 t1 t2 t3 t4 t5 t6 t7
      clear s0 z0 z1 zb
      go_wp2_with fail
      obtain ⟨z1, z2⟩ := set8 HY0.out HYB.out (Nat.le_refl _) (.int .i64 0) (.int .i64 0) (.int .i64 0) (.int .i64 0) (.int .i64 0) (.int .i64 0) (.int .i64 0) (.int .i64 0)
      refine bodyPost_ret (res_ct Tryz.results46 _ _ w.heap.size 93 #[.int .i64 0, .int .i64 0, .int .i64 0, .int .i64 0, .int .i64 0, .int .i64 0, .int .i64 0, .int .i64 0] (0, 0) _ rfl z1 Tryz.underlying93 rfl info_ci8) rfl ?_
      exact ⟨by rw [HR.out]; rfl, z2⟩
theorem ckF_hit {l : List Ck} {id : Int} {k : Nat} (hk : k < l.length) (hn : ∀ j, j < k → ((l.getD j .nil).id == id) = false) (h : ((l.getD k .nil).id == id) = true) : ckF l id = some (l.getD k .nil) := by
  unfold ckF
  rw [List.find?_eq_some_iff_getElem]
  refine ⟨h, k, hk, by rw [List.getD_eq_getElem?_getD, List.getElem?_eq_getElem hk]; rfl, fun j hj => ?_⟩
  have := hn j hj
  rw [List.getD_eq_getElem?_getD, List.getElem?_eq_getElem (by omega)] at this
  simpa using this
theorem ckF_miss {l : List Ck} {id : Int} (hn : ∀ j, j < l.length → ((l.getD j .nil).id == id) = false) : ckF l id = none := by
  unfold ckF
  rw [List.find?_eq_none]
  intro x hx
  obtain ⟨j, hj, rfl⟩ := List.getElem_of_mem hx
  have := hn j hj
  rw [List.getD_eq_getElem?_getD, List.getElem?_eq_getElem hj] at this
  simpa using this
set_option maxRecDepth 100000 in
set_option maxHeartbeats 4000000 in
theorem checkOf_any (v : Value) (l : List Ck) (id : Int) (w : World) (hv : CkRow w v l) (hl : l.length ≤ 1000000) :
    Calls Tryz.prog 47 #[v, .int .i64 id] w fun e w' => e = .returned (.tuple #[((ckF l id).getD .nil).val, .bool (ckF l id).isSome]) ∧ Below w.heap.size w w' := by
  obtain ⟨a, cap, rfl, hc⟩ := hv.form
  have HC := Lib.hid hc
  clear hc hv
  have HHIT := Lib.hid (fun k hk => ckF_hit (l := l) (id := id) (k := k) hk)
  have HMISS := Lib.hid (ckF_miss (l := l) (id := id))
  obtain ⟨R, hR⟩ : ∃ R, ckF l id = R := ⟨_, rfl⟩
  rw [hR] at HHIT HMISS ⊢
  clear hR
  have HA := Lib.hid (fun W' => cells1 w #[.int .i64 0, .int .i64 0, .int .i64 0, .int .i64 0, .int .i64 0, .int .i64 0, .int .i64 0] 67 (W := W'))
  have HB0 := Lib.hid (Below.refl (w.alloc (.cells #[.int .i64 0, .int .i64 0, .int .i64 0, .int .i64 0, .int .i64 0, .int .i64 0, .int .i64 0] 67)).heap.size (w.alloc (.cells #[.int .i64 0, .int .i64 0, .int .i64 0, .int .i64 0, .int .i64 0, .int .i64 0, .int .i64 0] 67)))
  obtain ⟨Z, hZ⟩ : ∃ Z, w.alloc (.cells #[.int .i64 0, .int .i64 0, .int .i64 0, .int .i64 0, .int .i64 0, .int .i64 0, .int .i64 0] 67) = Z := ⟨_, rfl⟩
  rw [hZ] at HA HB0
  have HZ := Lib.hid hZ
  clear hZ
  go_enter Tryz.func47, Tryz.ntmps47
  go_wp2_with fail
  rw [HZ.out]
  go_loopw [10] (fun i wr => ∃ (k : Nat), k ≤ l.length ∧ i = .int .i64 k ∧ Hid (Below Z.heap.size Z wr) ∧ Hid (∀ j, j < k → ((l.getD j .nil).id == id) = false)) (fun i _ => l.length - (intOf i).toNat)
  case atStart => exact ⟨0, Nat.zero_le _, rfl, HB0, Lib.hid (fun j hj => by omega)⟩
  case round =>
    obtain ⟨k, hk, rfl, hB, hN⟩ := hrel
    obtain ⟨z0, z1, zb⟩ := HA.out wr hB.out
    by_cases hkl : k < l.length
    · obtain ⟨b, off, rfl, hb, hat⟩ := HC.out k hkl
      obtain ⟨e0, e1, e2, e3, e4, e5, e6⟩ := hat.keep zb hb
      have hki : (k : Int) < l.length := by omega
      have hk0 : (0 : Int) ≤ k := by omega
      obtain ⟨id', hid'⟩ : ∃ z, (l.getD k .nil).id = z := ⟨_, rfl⟩
      have HEL : Hid (l.getD k .nil = l.getD k .nil) := Lib.hid rfl
      have HH := HHIT.out k hkl hN.out
      have HNX : Hid (((l.getD k .nil).id == id) = false → ∀ j, j < k + 1 → ((l.getD j .nil).id == id) = false) := Lib.hid (fun h j hj => by
        by_cases e : j = k
        · subst e; exact h
        · exact hN.out j (by omega))
      rw [hid'] at HNX HH e0
      obtain ⟨X, hX⟩ : ∃ X, l.getD k .nil = X := ⟨_, rfl⟩
      rw [hX] at HH e1 e2 e3 e4 e5 e6 hid'
      have HX := Lib.hid hid'
      obtain ⟨a0, a1, a2, a3, a4, a5, a6⟩ := X
      simp only at e1 e2 e3 e4 e5 e6 hid'
      subst hid'
      have HH2 := Lib.hid HH
      have HBA := Lib.hid (hB.out.alloc hB.out.size (.cells #[.int .i64 a0, .int .i64 a1, .int .i64 a2, .int .i64 a3, .int .i64 a4, .int .i64 a5, .int .i64 a6] 67))
      have HKL := Lib.hid hkl
      have HZA : Hid (∀ W', Below Z.heap.size Z W' → W'.heap[w.heap.size]? = some (.cells #[.int .i64 0, .int .i64 0, .int .i64 0, .int .i64 0, .int .i64 0, .int .i64 0, .int .i64 0] 67 (0, 0)) ∧ Below w.heap.size w W') := Lib.hid (fun W' h => ⟨(HA.out W' h).1, (HA.out W' h).2.2⟩)
      clear hat hb hX HH z0 z1 zb
      cases hE : (a0 == id)
      · have HN2 := Lib.hid (HNX.out hE)
        go_wp2_with fail
        go_roundw
        case rel => exact ⟨k + 1, HKL.out, by go_num, HBA, HN2⟩
        case measure => have := HKL.out; simp [intOf]; omega
      · have HR := Lib.hid (HH2.out hE)
        obtain ⟨y0, yb⟩ := HZA.out _ HBA.out
        have HY0 := Lib.hid y0
        have HYB := Lib.hid yb
        have s0 := fun j => cellH y0 j
        have t0 := s0 0
        have t1 := s0 1; have t2 := s0 2; have t3 := s0 3; have t4 := s0 4; have t5 := s0 5; have t6 := s0 6
        have tf := freeH y0
        simp only [List.getElem?_toArray, List.getElem?_cons_zero, List.getElem?_cons_succ] at t0 t1 t2 t3 t4 t5 t6
        clear s0 y0 yb
        go_wp2_with fail
        obtain ⟨z1, z2⟩ := set7 HY0.out HYB.out (Nat.le_refl _) (.int .i64 a0) (.int .i64 a1) (.int .i64 a2) (.int .i64 a3) (.int .i64 a4) (.int .i64 a5) (.int .i64 a6)
        refine bodyPost_ret (res_ct Tryz.results47 _ _ w.heap.size 67 #[.int .i64 a0, .int .i64 a1, .int .i64 a2, .int .i64 a3, .int .i64 a4, .int .i64 a5, .int .i64 a6] (0, 0) _ rfl z1 Tryz.underlying67 rfl info_ck7) rfl ?_
        exact ⟨by rw [HR.out]; rfl, z2⟩
    · obtain rfl : k = l.length := by omega
      have HR := Lib.hid (HMISS.out hN.out)
      have HY0 := Lib.hid z0
      have HYB := Lib.hid zb
      have s0 := fun j => cellH z0 j
      have t0 := s0 0
      have t1 := s0 1; have t2 := s0 2; have t3 := s0 3; have t4 := s0 4; have t5 := s0 5; have t6 := s0 6
      have tf := freeH z0
      simp only [List.getElem?_toArray, List.getElem?_cons_zero, List.getElem?_cons_succ] at t0 t1 t2 t3 t4 t5 t6
      clear s0 z0 z1 zb
      go_wp2_with fail
      obtain ⟨z1, z2⟩ := set7 HY0.out HYB.out (Nat.le_refl _) (.int .i64 0) (.int .i64 0) (.int .i64 0) (.int .i64 0) (.int .i64 0) (.int .i64 0) (.int .i64 0)
      refine bodyPost_ret (res_ct Tryz.results47 _ _ w.heap.size 67 #[.int .i64 0, .int .i64 0, .int .i64 0, .int .i64 0, .int .i64 0, .int .i64 0, .int .i64 0] (0, 0) _ rfl z1 Tryz.underlying67 rfl info_ck7) rfl ?_
      exact ⟨by rw [HR.out]; rfl, z2⟩
end Go.Proofs.YtebdboacmeafaaaGreat
