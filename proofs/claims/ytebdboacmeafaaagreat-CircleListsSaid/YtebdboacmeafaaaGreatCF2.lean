/- Package firetowerref05: Far, Against, Things. -/
import Derived.Test.YtebdboacmeafaaaGreatCF0
import Derived.Test.YtebdboacmeafaaaGreatCBA
import Derived.Test.YtebdboacmeafaaaGreatCCA
import Derived.Test.YtebdboacmeafaaaGreatCB8
set_option linter.unusedVariables false
set_option linter.unusedSimpArgs false
namespace Go.Proofs.YtebdboacmeafaaaGreat
open Go Go.RowKit

set_option maxRecDepth 100000 in
set_option maxHeartbeats 8000000 in
theorem pFar_any (z : Ci) (s t : Int) (w : World) (hd : 0 ≤ z.dr ∧ z.dr ≤ 60) (hs : 0 ≤ s ∧ s ≤ 1048576) (ht : 0 ≤ t ∧ t ≤ 1048576) :
    Calls Tryz.prog 66 #[z.val, .int .i64 s, .int .i64 t] w fun e w' => e = .returned (.int .i64 (frI z.dr s t)) ∧ Below w.heap.size w w' := by
  have hm := fr_mul hd hs ht
  have HFV : Hid (frI z.dr s t = (z.dr * max (s - t) (t - s) + 59) / 60) := Lib.hid rfl
  obtain ⟨id, x, y, f, t', lo, hi, dr⟩ := z
  simp only at hd hm HFV ⊢
  obtain ⟨P, hP⟩ : ∃ P, dr * max (s - t) (t - s) = P := ⟨_, rfl⟩
  obtain ⟨F, hF⟩ : ∃ F, frI dr s t = F := ⟨_, rfl⟩
  rw [hP, hF] at hm
  rw [hP, hF] at HFV
  rw [hF]
  have e1 : IntKind.i64.wrap (s - t) = s - t := IntWalk.i64_in _ (by omega)
  have e2 : IntKind.i64.wrap (t - s) = t - s := IntWalk.i64_in _ (by omega)
  have e3 : IntKind.i64.wrap (dr * max (s - t) (t - s)) = P := by rw [hP]; exact IntWalk.i64_in _ (by omega)
  have e4 : IntKind.i64.wrap (P + 59) = P + 59 := IntWalk.i64_in _ (by omega)
  have e5 : (P + 59).tdiv 60 = F := by rw [HFV.out]; exact Int.tdiv_eq_ediv_of_nonneg (by omega)
  have e6 : IntKind.i64.wrap F = F := IntWalk.i64_in _ (by omega)
  clear hP hF hm HFV hd hs ht
  obtain ⟨x0, xlt, xb⟩ := cells1 w #[.int .i64 id, .int .i64 x, .int .i64 y, .int .i64 f, .int .i64 (t'), .int .i64 lo, .int .i64 hi, .int .i64 dr] 93 (Below.refl _ _)
  have HNx : Hid ((w.alloc (.cells #[.int .i64 id, .int .i64 x, .int .i64 y, .int .i64 f, .int .i64 (t'), .int .i64 lo, .int .i64 hi, .int .i64 dr] 93)).heap[w.heap.size]? = some (.cells #[.int .i64 id, .int .i64 x, .int .i64 y, .int .i64 f, .int .i64 (t'), .int .i64 lo, .int .i64 hi, .int .i64 dr] 93 (0, 0))) := Lib.hid x0
  have HB : Hid (Below w.heap.size w (w.alloc (.cells #[.int .i64 id, .int .i64 x, .int .i64 y, .int .i64 f, .int .i64 (t'), .int .i64 lo, .int .i64 hi, .int .i64 dr] 93))) := Lib.hid xb
  obtain ⟨Z, hZ⟩ : ∃ Z, (w.alloc (.cells #[.int .i64 id, .int .i64 x, .int .i64 y, .int .i64 f, .int .i64 (t'), .int .i64 lo, .int .i64 hi, .int .i64 dr] 93)) = Z := ⟨_, rfl⟩
  rw [hZ] at HB HNx
  have HZ := Lib.hid hZ
  clear hZ xlt xb x0
  go_enter Tryz.func66, Tryz.ntmps66
  have zx0 := cellH HNx.out 0
  have zx1 := cellH HNx.out 1
  have zx2 := cellH HNx.out 2
  have zx3 := cellH HNx.out 3
  have zx4 := cellH HNx.out 4
  have zx5 := cellH HNx.out 5
  have zx6 := cellH HNx.out 6
  have zx7 := cellH HNx.out 7
  simp only [List.getElem?_toArray, List.getElem?_cons_zero, List.getElem?_cons_succ] at zx0 zx1 zx2 zx3 zx4 zx5 zx6 zx7
  go_wp2_with fail
  try rw [HZ.out]
  go_ret
  exact ⟨rfl, HB.out⟩
/-! Rows of the reference's things. -/
abbrev Th.tg (x : Th) : Value := .agg #[.int .i64 x.id, .int .i64 x.t, .int .i64 x.lo, .int .i64 x.hi, .bool x.no]
def Th.tge (x : Th) : List Value := [.int .i64 x.id, .int .i64 x.t, .int .i64 x.lo, .int .i64 x.hi, .bool x.no]
def TgAt (w : World) (b off i : Nat) (x : Th) : Prop := w.cell? ⟨b, off + i * 5, none⟩ = some (.int .i64 x.id) ∧ w.cell? ⟨b, off + i * 5 + 1, none⟩ = some (.int .i64 x.t) ∧ w.cell? ⟨b, off + i * 5 + 2, none⟩ = some (.int .i64 x.lo) ∧ w.cell? ⟨b, off + i * 5 + 3, none⟩ = some (.int .i64 x.hi) ∧ w.cell? ⟨b, off + i * 5 + 4, none⟩ = some (.bool x.no)
def TgRow (w : World) (v : Value) (l : List Th) : Prop :=
  (∃ a cap, v = .slice a 0 cap ∧ l = []) ∨
  ∃ b off cap, v = .slice (some ⟨b, off, none⟩) l.length cap ∧ l.length ≤ cap ∧ b < w.heap.size ∧ ∀ i, i < l.length → TgAt w b off i (l.getD i .nil)
theorem TgRow.form {w : World} {v : Value} {l : List Th} (h : TgRow w v l) : ∃ a cap, v = .slice a l.length cap ∧ ∀ i, i < l.length → ∃ b off, a = some ⟨b, off, none⟩ ∧ b < w.heap.size ∧ TgAt w b off i (l.getD i .nil) := by
  rcases h with ⟨a, cap, rfl, rfl⟩ | ⟨b, off, cap, rfl, hp, hb, hc⟩
  · exact ⟨a, cap, rfl, fun k hk => by simp at hk⟩
  · exact ⟨_, cap, rfl, fun k hk => ⟨b, off, rfl, hb, hc k hk⟩⟩
theorem TgAt.keep {w w' : World} {b off i : Nat} {x : Th} (h : TgAt w b off i x) {B : Nat} (hb : Below B w w') (hlt : b < B) : TgAt w' b off i x := by
  obtain ⟨h0, h1, h2, h3, h4⟩ := h
  exact ⟨(hb.cell (p := ⟨b, _, none⟩) hlt).trans h0, (hb.cell (p := ⟨b, _, none⟩) hlt).trans h1, (hb.cell (p := ⟨b, _, none⟩) hlt).trans h2, (hb.cell (p := ⟨b, _, none⟩) hlt).trans h3, (hb.cell (p := ⟨b, _, none⟩) hlt).trans h4⟩
theorem TgRow.keep {w w' : World} {v : Value} {l : List Th} (h : TgRow w v l) (hb : Below w.heap.size w w') : TgRow w' v l := by
  rcases h with h | ⟨b, off, cap, rfl, hp, h1, hc⟩
  · exact .inl h
  · exact .inr ⟨b, off, cap, rfl, hp, Nat.lt_of_lt_of_le h1 hb.size, fun i hi => (hc i hi).keep hb h1⟩
theorem flat_five (f : Th → List Value) (hf : ∀ x, (f x).length = 5) : ∀ (l : List Th) (i j : Nat), i < l.length → j < 5 → (l.flatMap f)[i * 5 + j]? = (f (l.getD i .nil))[j]?
  | [], i, j, h, _ => by simp at h
  | x :: l, 0, j, _, hj => by
    rw [List.flatMap_cons, List.getElem?_append_left (by rw [hf]; omega), Nat.zero_mul, Nat.zero_add]; rfl
  | x :: l, i + 1, j, h, hj => by
    rw [List.flatMap_cons, List.getElem?_append_right (by rw [hf]; omega), hf, show (i + 1) * 5 + j - 5 = i * 5 + j by omega, flat_five f hf l i j (by simpa using h) hj]; rfl
theorem TgRow.of_own {w : World} {base : Nat} {v : Value} {l : List Th} (h : w.ownsRow base 181 5 v l.length (l.flatMap Th.tge)) : TgRow w v l := by
  rcases h.2 with ⟨rfl, h0⟩ | ⟨g, cap, cur, rfl, hb, hg, hn, hm, hs, ht⟩
  · exact .inl ⟨_, _, rfl, List.eq_nil_of_length_eq_zero h0⟩
  · refine .inr ⟨g, 0, cap, rfl, hn, (Array.getElem?_eq_some_iff.1 hg).1, fun i hi => ?_⟩
    have key : ∀ j, j < 5 → w.cell? ⟨g, 0 + i * 5 + j, none⟩ = (Th.tge (l.getD i .nil))[j]? := fun j hj => by
      rw [cellH hg, ← flat_five Th.tge (fun _ => rfl) l i j hi hj, ← ht, List.getElem?_take_of_lt (by omega), Array.getElem?_toList, Nat.zero_add]
    exact ⟨key 0 (by omega), key 1 (by omega), key 2 (by omega), key 3 (by omega), key 4 (by omega)⟩
theorem info_tg : (Tryz.prog.info? 181).map (fun i => (i.zero, i.size, i.bytes)) = some (some (.agg #[.int .i64 0, .int .i64 0, .int .i64 0, .int .i64 0, .bool false]), 5, 40) := by kernel_rfl
/-- Two things contradict each other, neither of which contradicts itself. -/
def agB (dr : Int) (a b : Th) : Bool := decide (b.hi + frI dr a.t b.t < a.lo) || decide (a.hi + frI dr a.t b.t < b.lo)
set_option maxRecDepth 100000 in
set_option maxHeartbeats 8000000 in
theorem against_any (z : Ci) (p q : Th) (w : World) (hd : 0 ≤ z.dr ∧ z.dr ≤ 60) (hp : p.ok) (hq : q.ok) :
    Calls Tryz.prog 109 #[z.val, p.tg, q.tg] w fun e w' => e = .returned (.bool (agB z.dr p q)) ∧ Below w.heap.size w w' := by
  have HFA := Lib.hid (fun w' => pFar_any z p.t q.t w' hd hp.1 hq.1)
  have hb2 := (fr_mul hd hp.1 hq.1).2
  have HAV : Hid (agB z.dr p q = (decide (q.hi + frI z.dr p.t q.t < p.lo) || decide (p.hi + frI z.dr p.t q.t < q.lo))) := Lib.hid rfl
  obtain ⟨D, hD⟩ : ∃ D, frI z.dr p.t q.t = D := ⟨_, rfl⟩
  obtain ⟨B, hB⟩ : ∃ D, agB z.dr p q = D := ⟨_, rfl⟩
  rw [hD] at HFA hb2 HAV
  rw [hB] at HAV ⊢
  obtain ⟨p0, pc, p1, px, py, ps, psl, p2, p3, p4⟩ := p
  obtain ⟨q0, qc, q1, qx, qy, qs, qsl, q2, q3, q4⟩ := q
  obtain ⟨id, x, y, f, t', lo, hi, dr⟩ := z
  obtain ⟨⟨_, _⟩, ⟨i1, i2⟩, i3, i4⟩ := hp
  obtain ⟨⟨_, _⟩, ⟨j1, j2⟩, j3, j4⟩ := hq
  simp only at HFA HAV i1 i2 i3 i4 j1 j2 j3 j4
  have e1 : IntKind.i64.wrap (q3 + D) = q3 + D := IntWalk.i64_in _ (by omega)
  have e2 : IntKind.i64.wrap (p3 + D) = p3 + D := IntWalk.i64_in _ (by omega)
  clear hD hB hb2 i1 i2 i3 i4 j1 j2 j3 j4
  obtain ⟨x0, x1, x2, xlt, xb⟩ := cells3 w #[.int .i64 id, .int .i64 x, .int .i64 y, .int .i64 f, .int .i64 (t'), .int .i64 lo, .int .i64 hi, .int .i64 dr] #[.int .i64 p0, .int .i64 p1, .int .i64 p2, .int .i64 p3, .bool p4] #[.int .i64 q0, .int .i64 q1, .int .i64 q2, .int .i64 q3, .bool q4] 93 181 181 (Below.refl _ _)
  have HNx : Hid ((((w.alloc (.cells #[.int .i64 id, .int .i64 x, .int .i64 y, .int .i64 f, .int .i64 (t'), .int .i64 lo, .int .i64 hi, .int .i64 dr] 93)).alloc (.cells #[.int .i64 p0, .int .i64 p1, .int .i64 p2, .int .i64 p3, .bool p4] 181)).alloc (.cells #[.int .i64 q0, .int .i64 q1, .int .i64 q2, .int .i64 q3, .bool q4] 181)).heap[w.heap.size]? = some (.cells #[.int .i64 id, .int .i64 x, .int .i64 y, .int .i64 f, .int .i64 (t'), .int .i64 lo, .int .i64 hi, .int .i64 dr] 93 (0, 0))) := Lib.hid x0
  have HNp : Hid ((((w.alloc (.cells #[.int .i64 id, .int .i64 x, .int .i64 y, .int .i64 f, .int .i64 (t'), .int .i64 lo, .int .i64 hi, .int .i64 dr] 93)).alloc (.cells #[.int .i64 p0, .int .i64 p1, .int .i64 p2, .int .i64 p3, .bool p4] 181)).alloc (.cells #[.int .i64 q0, .int .i64 q1, .int .i64 q2, .int .i64 q3, .bool q4] 181)).heap[w.heap.size + 1]? = some (.cells #[.int .i64 p0, .int .i64 p1, .int .i64 p2, .int .i64 p3, .bool p4] 181 (0, 0))) := Lib.hid x1
  have HNq : Hid ((((w.alloc (.cells #[.int .i64 id, .int .i64 x, .int .i64 y, .int .i64 f, .int .i64 (t'), .int .i64 lo, .int .i64 hi, .int .i64 dr] 93)).alloc (.cells #[.int .i64 p0, .int .i64 p1, .int .i64 p2, .int .i64 p3, .bool p4] 181)).alloc (.cells #[.int .i64 q0, .int .i64 q1, .int .i64 q2, .int .i64 q3, .bool q4] 181)).heap[w.heap.size + 1 + 1]? = some (.cells #[.int .i64 q0, .int .i64 q1, .int .i64 q2, .int .i64 q3, .bool q4] 181 (0, 0))) := Lib.hid x2
  have HB : Hid (Below w.heap.size w (((w.alloc (.cells #[.int .i64 id, .int .i64 x, .int .i64 y, .int .i64 f, .int .i64 (t'), .int .i64 lo, .int .i64 hi, .int .i64 dr] 93)).alloc (.cells #[.int .i64 p0, .int .i64 p1, .int .i64 p2, .int .i64 p3, .bool p4] 181)).alloc (.cells #[.int .i64 q0, .int .i64 q1, .int .i64 q2, .int .i64 q3, .bool q4] 181))) := Lib.hid xb
  obtain ⟨Z, hZ⟩ : ∃ Z, (((w.alloc (.cells #[.int .i64 id, .int .i64 x, .int .i64 y, .int .i64 f, .int .i64 (t'), .int .i64 lo, .int .i64 hi, .int .i64 dr] 93)).alloc (.cells #[.int .i64 p0, .int .i64 p1, .int .i64 p2, .int .i64 p3, .bool p4] 181)).alloc (.cells #[.int .i64 q0, .int .i64 q1, .int .i64 q2, .int .i64 q3, .bool q4] 181)) = Z := ⟨_, rfl⟩
  rw [hZ] at HB HNx HNp HNq
  have HZ := Lib.hid hZ
  clear hZ xlt xb x0 x1 x2
  go_enter Tryz.func109, Tryz.ntmps109
  go_wp2_with fail
  rw [HZ.out]
  refine (HFA.out _).mono ?_
  rintro e w1 ⟨rfl, hb⟩
  replace HB := Lib.hid (HB.out.trans (hb.mono HB.out.size))
  replace HNx := Lib.hid ((hb.block _ (Array.getElem?_eq_some_iff.1 HNx.out).1).trans HNx.out)
  replace HNp := Lib.hid ((hb.block _ (Array.getElem?_eq_some_iff.1 HNp.out).1).trans HNp.out)
  replace HNq := Lib.hid ((hb.block _ (Array.getElem?_eq_some_iff.1 HNq.out).1).trans HNq.out)
  clear hb
  have zp0 := cellH HNp.out 0
  have zp1 := cellH HNp.out 1
  have zp2 := cellH HNp.out 2
  have zp3 := cellH HNp.out 3
  have zp4 := cellH HNp.out 4
  have zq0 := cellH HNq.out 0
  have zq1 := cellH HNq.out 1
  have zq2 := cellH HNq.out 2
  have zq3 := cellH HNq.out 3
  have zq4 := cellH HNq.out 4
  simp only [List.getElem?_toArray, List.getElem?_cons_zero, List.getElem?_cons_succ] at zp0 zp1 zp2 zp3 zp4 zq0 zq1 zq2 zq3 zq4
  cases g1 : decide (q3 + D < p2)
  · have h1 : ¬ q3 + D < p2 := of_decide_eq_false g1
    cases g2 : decide (p3 + D < q2)
    · have h2 : ¬ p3 + D < q2 := of_decide_eq_false g2
      have HN : Hid (B = false) := Lib.hid (by rw [HAV.out, g1, g2]; rfl)
      go_wp2_with fail
      go_ret
      exact ⟨by rw [HN.out]; rfl, HB.out⟩
    · have h2 : p3 + D < q2 := of_decide_eq_true g2
      have HN : Hid (B = true) := Lib.hid (by rw [HAV.out, g1, g2]; rfl)
      go_wp2_with fail
      go_ret
      exact ⟨by rw [HN.out]; rfl, HB.out⟩
  · have h1 : q3 + D < p2 := of_decide_eq_true g1
    have HN : Hid (B = true) := Lib.hid (by rw [HAV.out, g1]; rfl)
    go_wp2_with fail
    go_ret
    exact ⟨by rw [HN.out]; rfl, HB.out⟩
/-- The worlds and frames in a region. -/
def ThgInv (Z : World) (wz b off nc cc nk ck k : Nat) (a1 : Option Addr) (x0 x1 x2 x3 x4 x5 x6 lo hi : Int) (no : Bool) (v5 : Value) (n : Nat) (xs : List Value) (u0 u1 u4 u7 u8 u9 u10 u11 u12 u13 u14 u15 u16 u17 u18 u19 u20 u21 u22 u23 u24 u25 u26 u27 u28 u29 u30 u31 u32 u33 u34 u35 u36 u37 u38 u39 u40 u41 u42 u43 u44 u45 u46 u47 u48 u49 u50 u51 u52 u53 : Value) (listed : Array Bool) (a : Act) (w' : World) : Prop :=
  ∃ (l0 l1 l2 l3 l4 l5 l6 l7 l8 l9 l10 l11 l12 l13 l14 l15 l16 l17 l18 l19 l20 l21 l22 : Bool) (A : Nat) (V : Value), listed = #[l0, l1, l2, l3, l4, l5, l6, l7, l8, l9, l10, l11, l12, l13, l14, l15, l16, l17, l18, l19, l20, l21, l22, false] ∧ a = { tmps := #[u0, u1, .pointer (some ⟨wz, 0, none⟩), .pointer (some ⟨wz + 1, 0, none⟩), u4, v5, .int .i64 (k : Nat), u7, u8, u9, u10, u11, u12, u13, u14, u15, u16, u17, u18, u19, u20, u21, u22, u23, u24, u25, u26, u27, u28, u29, pkIf l0 (v5) (u30), pkIf l1 (.pointer (some ⟨wz, 1, none⟩)) (u31), pkIf l2 (.slice (some ⟨b, off, none⟩) nk ck) (u32), pkIf l3 (.int .i64 (k : Nat)) (u33), pkIf l4 (.pointer (some ⟨b, off + k * 7, none⟩)) (u34), pkIf l5 (.pointer (some ⟨b, off + k * 7, none⟩)) (u35), pkIf l6 (.int .i64 x0) (u36), pkIf l7 (.pointer (some ⟨wz, 1, none⟩)) (u37), pkIf l8 (.slice (some ⟨b, off, none⟩) nk ck) (u38), pkIf l9 (.int .i64 (k : Nat)) (u39), pkIf l10 (.pointer (some ⟨b, off + k * 7, none⟩)) (u40), pkIf l11 (.pointer (some ⟨b, off + k * 7 + 2, none⟩)) (u41), pkIf l12 (.int .i64 x2) (u42), pkIf l13 (.agg #[.slice a1 nc cc, .slice (some ⟨b, off, none⟩) nk ck]) (u43), pkIf l14 (.pointer (some ⟨wz, 1, none⟩)) (u44), pkIf l15 (.slice (some ⟨b, off, none⟩) nk ck) (u45), pkIf l16 (.int .i64 (k : Nat)) (u46), pkIf l17 (.pointer (some ⟨b, off + k * 7, none⟩)) (u47), pkIf l18 (.agg #[.int .i64 x0, .int .i64 x1, .int .i64 x2, .int .i64 x3, .int .i64 x4, .int .i64 x5, .int .i64 x6]) (u48), pkIf l19 (.agg #[.int .i64 lo, .int .i64 hi, .bool no]) (u49), pkIf l20 (.agg #[.int .i64 x0, .int .i64 x2, .int .i64 lo, .int .i64 hi, .bool no]) (u50), pkIf l21 (.slice (some ⟨A, 0, none⟩) 1 1) (u51), pkIf l22 (V) (u52), u53], defers := [] } ∧ Below Z.heap.size Z w' ∧ w'.ownsRow Z.heap.size 181 5 (if l22 = true then V else v5) (if l22 = true then n + 1 else n) (if l22 = true then xs ++ [.int .i64 x0, .int .i64 x2, .int .i64 lo, .int .i64 hi, .bool no] else xs) ∧ (l21 = true → l22 = false → w'.heap[A]? = some (.cells #[.int .i64 x0, .int .i64 x2, .int .i64 lo, .int .i64 hi, .bool no] 181 (0, 0)) ∧ v5.ownBlock ≠ some A) ∧ (l22 = true → l21 = true)
/-- What Things returns. -/
def ThgOut (z : Ci) (ks : List Ck) (w : World) (e : Ending) (w' : World) : Prop := ∃ v, e = .returned v ∧ TgRow w' v (thL z ks) ∧ Below w.heap.size w w'
theorem thL_len {z : Ci} {ks : List Ck} (h : ks.length ≤ 60) : (thL z ks).length ≤ 61 := by
  unfold thL
  rw [List.length_cons, List.length_map]
  exact Nat.succ_le_succ (Nat.le_trans (List.length_filter_le _ _) h)
set_option maxRecDepth 100000 in
set_option maxHeartbeats 8000000 in
theorem things_any (v1 v2 : Value) (cs : List Ci) (ks : List Ck) (z : Ci) (w : World) (hv1 : CiRow w v1 cs) (hv2 : CkRow w v2 ks) (ho : CcOk cs ks) (hz : ciF cs z.id = some z) :
    Calls Tryz.prog 58 #[.agg #[v1, v2], z.val] w fun e w' => ThgOut z ks w e w' := by
  obtain ⟨a1, c1, rfl, _⟩ := hv1.form
  obtain ⟨a2, c2, rfl, hc2⟩ := hv2.form
  have HC2 := Lib.hid hc2
  have HV1 := Lib.hid hv1
  have HO := Lib.hid ho
  have HZI := Lib.hid hz
  clear hc2 hv1 hv2
  obtain ⟨zi, zx, zy, zf, zt, zl, zh, dr⟩ := z
  obtain ⟨x0, x1, xlt, xb⟩ := two_cells w #[.slice a1 cs.length c1, .slice a2 ks.length c2] #[.int .i64 zi, .int .i64 zx, .int .i64 zy, .int .i64 zf, .int .i64 zt, .int .i64 zl, .int .i64 zh, .int .i64 dr] 25 93 (Below.refl _ _)
  have HNc : Hid (((w.alloc (.cells #[.slice a1 cs.length c1, .slice a2 ks.length c2] 25)).alloc (.cells #[.int .i64 zi, .int .i64 zx, .int .i64 zy, .int .i64 zf, .int .i64 zt, .int .i64 zl, .int .i64 zh, .int .i64 dr] 93)).heap[w.heap.size]? = some (.cells #[.slice a1 cs.length c1, .slice a2 ks.length c2] 25 (0, 0))) := Lib.hid x0
  have HNx : Hid (((w.alloc (.cells #[.slice a1 cs.length c1, .slice a2 ks.length c2] 25)).alloc (.cells #[.int .i64 zi, .int .i64 zx, .int .i64 zy, .int .i64 zf, .int .i64 zt, .int .i64 zl, .int .i64 zh, .int .i64 dr] 93)).heap[w.heap.size + 1]? = some (.cells #[.int .i64 zi, .int .i64 zx, .int .i64 zy, .int .i64 zf, .int .i64 zt, .int .i64 zl, .int .i64 zh, .int .i64 dr] 93 (0, 0))) := Lib.hid x1
  have HB : Hid (Below w.heap.size w ((w.alloc (.cells #[.slice a1 cs.length c1, .slice a2 ks.length c2] 25)).alloc (.cells #[.int .i64 zi, .int .i64 zx, .int .i64 zy, .int .i64 zf, .int .i64 zt, .int .i64 zl, .int .i64 zh, .int .i64 dr] 93))) := Lib.hid xb
  obtain ⟨Z, hZ⟩ : ∃ Z, ((w.alloc (.cells #[.slice a1 cs.length c1, .slice a2 ks.length c2] 25)).alloc (.cells #[.int .i64 zi, .int .i64 zx, .int .i64 zy, .int .i64 zf, .int .i64 zt, .int .i64 zl, .int .i64 zh, .int .i64 dr] 93)) = Z := ⟨_, rfl⟩
  rw [hZ] at HB HNc HNx
  have HZ := Lib.hid hZ
  clear hZ xlt xb x0 x1
  have HRZ : Hid (∀ W', Below Z.heap.size Z W' → W'.cell? ⟨w.heap.size, 0, none⟩ = some (.slice a1 cs.length c1) ∧ W'.cell? ⟨w.heap.size, 1, none⟩ = some (.slice a2 ks.length c2) ∧ W'.cell? ⟨w.heap.size + 1, 0, none⟩ = some (.int .i64 zi) ∧ W'.cell? ⟨w.heap.size + 1, 1, none⟩ = some (.int .i64 zx) ∧ W'.cell? ⟨w.heap.size + 1, 2, none⟩ = some (.int .i64 zy) ∧ W'.cell? ⟨w.heap.size + 1, 3, none⟩ = some (.int .i64 zf) ∧ W'.cell? ⟨w.heap.size + 1, 4, none⟩ = some (.int .i64 zt) ∧ W'.cell? ⟨w.heap.size + 1, 5, none⟩ = some (.int .i64 zl) ∧ W'.cell? ⟨w.heap.size + 1, 6, none⟩ = some (.int .i64 zh) ∧ W'.cell? ⟨w.heap.size + 1, 7, none⟩ = some (.int .i64 dr)) := Lib.hid (fun W' h => ⟨cellH ((h.block _ (Array.getElem?_eq_some_iff.1 HNc.out).1).trans HNc.out) 0, cellH ((h.block _ (Array.getElem?_eq_some_iff.1 HNc.out).1).trans HNc.out) 1, cellH ((h.block _ (Array.getElem?_eq_some_iff.1 HNx.out).1).trans HNx.out) 0, cellH ((h.block _ (Array.getElem?_eq_some_iff.1 HNx.out).1).trans HNx.out) 1, cellH ((h.block _ (Array.getElem?_eq_some_iff.1 HNx.out).1).trans HNx.out) 2, cellH ((h.block _ (Array.getElem?_eq_some_iff.1 HNx.out).1).trans HNx.out) 3, cellH ((h.block _ (Array.getElem?_eq_some_iff.1 HNx.out).1).trans HNx.out) 4, cellH ((h.block _ (Array.getElem?_eq_some_iff.1 HNx.out).1).trans HNx.out) 5, cellH ((h.block _ (Array.getElem?_eq_some_iff.1 HNx.out).1).trans HNx.out) 6, cellH ((h.block _ (Array.getElem?_eq_some_iff.1 HNx.out).1).trans HNx.out) 7⟩)
  have HBZ := Lib.hid (fun W' (h : Below Z.heap.size Z W') => HB.out.trans (h.mono HB.out.size))
  obtain ⟨i0, hi0, hz0, hz1, hz2⟩ := info_parts info_tg
  have HB1 := Lib.hid ((Below.refl Z.heap.size Z).alloc (Nat.le_refl _) (.cells #[.int .i64 0, .int .i64 zf, .int .i64 zl, .int .i64 zh, .bool false] 181))
  have hsz : Z.heap.size = w.heap.size + 1 + 1 := by rw [← HZ.out]; simp
  have HO1 : Hid ((Z.alloc (.cells #[.int .i64 0, .int .i64 zf, .int .i64 zl, .int .i64 zh, .bool false] 181)).ownsRow Z.heap.size 181 5 (.slice (some ⟨w.heap.size + 1 + 1, 0, none⟩) 1 1) (thL ⟨zi, zx, zy, zf, zt, zl, zh, dr⟩ (ks.take 0)).length ((thL ⟨zi, zx, zy, zf, zt, zl, zh, dr⟩ (ks.take 0)).flatMap Th.tge)) := Lib.hid ⟨rfl, .inr ⟨w.heap.size + 1 + 1, 1, #[.int .i64 0, .int .i64 zf, .int .i64 zl, .int .i64 zh, .bool false], rfl, Nat.le_of_eq hsz, (by rw [← hsz]; exact heap_alloc_new _ _), Nat.le_refl _, by decide, rfl, rfl⟩⟩
  clear hsz
  go_enter Tryz.func58, Tryz.ntmps58
  have zc0 := cellH HNc.out 0
  have zc1 := cellH HNc.out 1
  have zx0 := cellH HNx.out 0
  have zx1 := cellH HNx.out 1
  have zx2 := cellH HNx.out 2
  have zx3 := cellH HNx.out 3
  have zx4 := cellH HNx.out 4
  have zx5 := cellH HNx.out 5
  have zx6 := cellH HNx.out 6
  have zx7 := cellH HNx.out 7
  simp only [List.getElem?_toArray, List.getElem?_cons_zero, List.getElem?_cons_succ] at zc0 zc1 zx0 zx1 zx2 zx3 zx4 zx5 zx6 zx7
  obtain ⟨Y, hY⟩ : ∃ Y, Z.alloc (.cells #[.int .i64 0, .int .i64 zf, .int .i64 zl, .int .i64 zh, .bool false] 181) = Y := ⟨_, rfl⟩
  obtain ⟨y, hy⟩ : ∃ y, Z.heap.size = y := ⟨_, rfl⟩
  have HY := Lib.hid hY
  have HYY := Lib.hid hy
  rw [hY] at HB1 HO1
  clear hY hy
  go_wp2_with fail
  rw [HZ.out]
  clear zc0 zc1 zx0 zx1 zx2 zx3 zx4 zx5 zx6 zx7

  rw [HY.out]
  go_loopw [5, 6] (fun x i wr => ∃ (k : Nat) (o : Value), k ≤ ks.length ∧ x = o ∧ i = .int .i64 k ∧ Hid (Below Z.heap.size Z wr) ∧ Hid (wr.ownsRow Z.heap.size 181 5 o (thL ⟨zi, zx, zy, zf, zt, zl, zh, dr⟩ (ks.take k)).length ((thL ⟨zi, zx, zy, zf, zt, zl, zh, dr⟩ (ks.take k)).flatMap Th.tge))) (fun _ i _ => ks.length - (intOf i).toNat)
  case atStart => exact ⟨0, _, Nat.zero_le _, rfl, rfl, HB1, HO1⟩
  case round =>
    clear HO1 HB1
    obtain ⟨k, o, hk, hx5, rfl, hB, hO⟩ := hrel
    have hx5 := hx5.symm
    subst hx5
    obtain ⟨zc0, zc1, zx0, zx1, zx2, zx3, zx4, zx5, zx6, zx7⟩ := HRZ.out wr hB.out
    have hm := HO.out.m
    by_cases hkl : k < ks.length
    · obtain ⟨b, off, rfl, hb, hat⟩ := HC2.out k hkl
      obtain ⟨e0, e1, e2, e3, e4, e5, e6⟩ := hat.keep (HBZ.out wr hB.out) hb
      have hki : (k : Int) < ks.length := by omega
      have hk0 : (0 : Int) ≤ k := by omega
      have HKL := Lib.hid hkl
      have HBL := Lib.hid hb
      obtain ⟨zk, hzk⟩ := (HO.out.ck k hkl).1
      have HZK := Lib.hid hzk
      have HTK := Lib.hid (thL_take (z := ⟨zi, zx, zy, zf, zt, zl, zh, dr⟩) hkl)
      have HLN := Lib.hid (thL_len (z := ⟨zi, zx, zy, zf, zt, zl, zh, dr⟩) (ks := ks.take k) (by rw [List.length_take]; omega))
      obtain ⟨X, hX⟩ : ∃ X, ks.getD k .nil = X := ⟨_, rfl⟩
      rw [hX] at e0 e1 e2 e3 e4 e5 e6 HTK HZK hat
      have HAT := Lib.hid hat
      obtain ⟨x0, x1, x2, x3, x4, x5, x6⟩ := X
      simp only at e0 e1 e2 e3 e4 e5 e6 HTK
      clear hX hzk hat hb
      cases hE : (x1 == zi)
      · have HN : Hid (thL ⟨zi, zx, zy, zf, zt, zl, zh, dr⟩ (ks.take (k + 1)) = thL ⟨zi, zx, zy, zf, zt, zl, zh, dr⟩ (ks.take k)) := Lib.hid (by rw [HTK.out]; simp only [hE]; simp)
        go_wp2_with fail
        go_quiet (fail)
        go_wp2_with fail
        go_roundw
        case rel => exact ⟨k + 1, _, HKL.out, rfl, by go_num, Lib.hid (belowN hB.out _), Lib.hid (by rw [HN.out]; exact ownBelow hO.out (belowN (Below.refl _ wr) _))⟩
        case measure => have := HKL.out; simp [intOf]; omega
      · have hxz : x1 = zi := by simpa using hE
        have hof : ciF cs x1 = some ⟨zi, zx, zy, zf, zt, zl, zh, dr⟩ := by rw [hxz]; exact HZI.out
        have hbr : brB zx zy x3 x4 = true := ck_br (z := ⟨zi, zx, zy, zf, zt, zl, zh, dr⟩) HO.out ⟨HZK.out.id, HZK.out.at', HZK.out.s, HZK.out.sl, hof, by
          have h := HZK.out.of; rw [hof] at h; cases h; exact HZK.out.ne, by
          have h := HZK.out.of; rw [hof] at h; cases h; exact HZK.out.t⟩
        have HPA := Lib.hid (fun w' (h : Below w.heap.size w w') => palone_any (.slice a1 cs.length c1) (.slice (some ⟨b, off, none⟩) ks.length c2) cs ⟨x0, x1, x2, x3, x4, x5, x6⟩ ⟨zi, zx, zy, zf, zt, zl, zh, dr⟩ w' (HV1.out.keep h) (by have := HO.out.n; omega) hof hbr HZK.out.s HZK.out.sl)
        have HTO : Hid (Th.of zx zy ⟨x0, x1, x2, x3, x4, x5, x6⟩ = ⟨x0, x1, x2, x3, x4, x5, x6, if alB zx zy ⟨x0, x1, x2, x3, x4, x5, x6⟩ = true then alL zx zy ⟨x0, x1, x2, x3, x4, x5, x6⟩ else 0, if alB zx zy ⟨x0, x1, x2, x3, x4, x5, x6⟩ = true then alH zx zy ⟨x0, x1, x2, x3, x4, x5, x6⟩ else 0, !alB zx zy ⟨x0, x1, x2, x3, x4, x5, x6⟩⟩) := Lib.hid rfl
        simp only at HPA
        obtain ⟨lo, hlo⟩ : ∃ q, (if alB zx zy ⟨x0, x1, x2, x3, x4, x5, x6⟩ = true then alL zx zy ⟨x0, x1, x2, x3, x4, x5, x6⟩ else 0) = q := ⟨_, rfl⟩
        obtain ⟨hi, hhi⟩ : ∃ q, (if alB zx zy ⟨x0, x1, x2, x3, x4, x5, x6⟩ = true then alH zx zy ⟨x0, x1, x2, x3, x4, x5, x6⟩ else 0) = q := ⟨_, rfl⟩
        obtain ⟨no, hno⟩ : ∃ q, (!alB zx zy ⟨x0, x1, x2, x3, x4, x5, x6⟩) = q := ⟨_, rfl⟩
        rw [hlo, hhi, hno] at HPA HTO
        have HN : Hid (thL ⟨zi, zx, zy, zf, zt, zl, zh, dr⟩ (ks.take (k + 1)) = thL ⟨zi, zx, zy, zf, zt, zl, zh, dr⟩ (ks.take k) ++ [⟨x0, x1, x2, x3, x4, x5, x6, lo, hi, no⟩]) := Lib.hid (by rw [HTK.out, if_pos hE]; show _ ++ [Th.of zx zy _] = _; rw [HTO.out])
        obtain ⟨N, hN⟩ : ∃ N, (thL ⟨zi, zx, zy, zf, zt, zl, zh, dr⟩ (ks.take k)).length = N := ⟨_, rfl⟩
        obtain ⟨XS, hXS⟩ : ∃ N, (thL ⟨zi, zx, zy, zf, zt, zl, zh, dr⟩ (ks.take k)).flatMap Th.tge = N := ⟨_, rfl⟩
        rw [hN] at HLN
        rw [hN, hXS] at hO
        have HNX := Lib.hid (And.intro hN hXS)
        have hln := HLN.out
        have HAL : Hid (∀ w', Below Z.heap.size Z w' → Calls Tryz.prog 111 #[.agg #[.slice a1 cs.length c1, .slice (some ⟨b, off, none⟩) ks.length c2], .agg #[.int .i64 x0, .int .i64 x1, .int .i64 x2, .int .i64 x3, .int .i64 x4, .int .i64 x5, .int .i64 x6]] w' fun e w'' => e = .returned (.agg #[.int .i64 lo, .int .i64 hi, .bool no]) ∧ Below w'.heap.size w' w'') := Lib.hid (fun w' h => HPA.out w' (HBZ.out w' h))
        clear hN hXS hlo hhi hno hof hbr hxz
        go_wp2_with fail
        go_quiet (fail)
        go_wp2_with fail
        clear e0 e1 e2 e3 e4 e5 e6 zc0 zc1 zx0 zx1 zx2 zx3 zx4 zx5 zx6 zx7
        have HRT : Hid (∀ W', Below Z.heap.size Z W' → W'.cell? ⟨w.heap.size, 0, none⟩ = some (.slice a1 cs.length c1) ∧ W'.cell? ⟨w.heap.size, 1, none⟩ = some (.slice (some ⟨b, off, none⟩) ks.length c2) ∧ CkAt W' b off k ⟨x0, x1, x2, x3, x4, x5, x6⟩) := Lib.hid (fun W' h => ⟨(HRZ.out W' h).1, (HRZ.out W' h).2.1, HAT.out.keep (HBZ.out W' h) HBL.out⟩)
        refine wp_region_invtail 23 (by kernel_rfl) (by kernel_rfl) (by kernel_rfl) (by kernel_rfl) (of_decide_eq_true (by kernel_rfl)) (by kernel_rfl) (ThgInv Z w.heap.size b off cs.length c1 ks.length c2 k a1 x0 x1 x2 x3 x4 x5 x6 lo hi no _ N XS _ _ _ _ _ _ _ _ _ _ _ _ _ _ _ _ _ _ _ _ _ _ _ _ _ _ _ _ _ _ _ _ _ _ _ _ _ _ _ _ _ _ _ _ _ _ _ _ _ _) ⟨false, false, false, false, false, false, false, false, false, false, false, false, false, false, false, false, false, false, false, false, false, false, false, 0, undef, rfl, rfl, (belowN hB.out _).drew, ownBelow hO.out (belowN (Below.refl _ wr) _).drew, by simp, by simp⟩ ?hend ?hstep
        case hstep =>
          rintro listed a w' i ⟨l0, l1, l2, l3, l4, l5, l6, l7, l8, l9, l10, l11, l12, l13, l14, l15, l16, l17, l18, l19, l20, l21, l22, A, V, rfl, rfl, hb, hO, hA, kA⟩ hi hin
          obtain ⟨hf, o', ho', hp⟩ := mem_ready.1 hi
          clear hi
          obtain ⟨y0, y1, ⟨e0, e1, e2, e3, e4, e5, e6⟩⟩ := HRT.out w' hb
          obtain rfl | rfl | rfl | rfl | rfl | rfl | rfl | rfl | rfl | rfl | rfl | rfl | rfl | rfl | rfl | rfl | rfl | rfl | rfl | rfl | rfl | rfl | rfl : i = 0 ∨ i = 1 ∨ i = 2 ∨ i = 3 ∨ i = 4 ∨ i = 5 ∨ i = 6 ∨ i = 7 ∨ i = 8 ∨ i = 9 ∨ i = 10 ∨ i = 11 ∨ i = 12 ∨ i = 13 ∨ i = 14 ∨ i = 15 ∨ i = 16 ∨ i = 17 ∨ i = 18 ∨ i = 19 ∨ i = 20 ∨ i = 21 ∨ i = 22 := by omega
          · obtain rfl : l0 = false := by simpa using hf
            clear hp ho'
            unfold wpOp
            simp only [pkIf_true]
            go_simp
            exact .inl ⟨true, l1, l2, l3, l4, l5, l6, l7, l8, l9, l10, l11, l12, l13, l14, l15, l16, l17, l18, l19, l20, l21, l22, A, V, rfl, rfl, hb, hO, hA, kA⟩
          · obtain rfl : l1 = false := by simpa using hf
            clear hp ho'
            unfold wpOp
            simp only [pkIf_true]
            go_simp
            exact .inl ⟨l0, true, l2, l3, l4, l5, l6, l7, l8, l9, l10, l11, l12, l13, l14, l15, l16, l17, l18, l19, l20, l21, l22, A, V, rfl, rfl, hb, hO, hA, kA⟩
          · obtain rfl : l2 = false := by simpa using hf
            cases ho'
            obtain rfl : l1 = true := by simpa using hp ⟨1, .data⟩ (by simp) rfl
            clear hp
            unfold wpOp
            simp only [pkIf_true]
            go_simp
            exact .inl ⟨l0, true, true, l3, l4, l5, l6, l7, l8, l9, l10, l11, l12, l13, l14, l15, l16, l17, l18, l19, l20, l21, l22, A, V, rfl, rfl, hb, hO, hA, kA⟩
          · obtain rfl : l3 = false := by simpa using hf
            clear hp ho'
            unfold wpOp
            simp only [pkIf_true]
            go_simp
            exact .inl ⟨l0, l1, l2, true, l4, l5, l6, l7, l8, l9, l10, l11, l12, l13, l14, l15, l16, l17, l18, l19, l20, l21, l22, A, V, rfl, rfl, hb, hO, hA, kA⟩
          · obtain rfl : l4 = false := by simpa using hf
            cases ho'
            obtain rfl : l2 = true := by simpa using hp ⟨2, .data⟩ (by simp) rfl
            obtain rfl : l3 = true := by simpa using hp ⟨3, .data⟩ (by simp) rfl
            clear hp
            unfold wpOp
            simp only [pkIf_true]
            go_simp
            exact .inl ⟨l0, l1, true, true, true, l5, l6, l7, l8, l9, l10, l11, l12, l13, l14, l15, l16, l17, l18, l19, l20, l21, l22, A, V, rfl, rfl, hb, hO, hA, kA⟩
          · obtain rfl : l5 = false := by simpa using hf
            cases ho'
            obtain rfl : l4 = true := by simpa using hp ⟨4, .data⟩ (by simp) rfl
            clear hp
            unfold wpOp
            simp only [pkIf_true]
            go_simp
            exact .inl ⟨l0, l1, l2, l3, true, true, l6, l7, l8, l9, l10, l11, l12, l13, l14, l15, l16, l17, l18, l19, l20, l21, l22, A, V, rfl, rfl, hb, hO, hA, kA⟩
          · obtain rfl : l6 = false := by simpa using hf
            cases ho'
            obtain rfl : l5 = true := by simpa using hp ⟨5, .data⟩ (by simp) rfl
            clear hp
            unfold wpOp
            simp only [pkIf_true]
            go_simp
            exact .inl ⟨l0, l1, l2, l3, l4, true, true, l7, l8, l9, l10, l11, l12, l13, l14, l15, l16, l17, l18, l19, l20, l21, l22, A, V, rfl, rfl, hb, hO, hA, kA⟩
          · obtain rfl : l7 = false := by simpa using hf
            clear hp ho'
            unfold wpOp
            simp only [pkIf_true]
            go_simp
            exact .inl ⟨l0, l1, l2, l3, l4, l5, l6, true, l8, l9, l10, l11, l12, l13, l14, l15, l16, l17, l18, l19, l20, l21, l22, A, V, rfl, rfl, hb, hO, hA, kA⟩
          · obtain rfl : l8 = false := by simpa using hf
            cases ho'
            obtain rfl : l7 = true := by simpa using hp ⟨7, .data⟩ (by simp) rfl
            clear hp
            unfold wpOp
            simp only [pkIf_true]
            go_simp
            exact .inl ⟨l0, l1, l2, l3, l4, l5, l6, true, true, l9, l10, l11, l12, l13, l14, l15, l16, l17, l18, l19, l20, l21, l22, A, V, rfl, rfl, hb, hO, hA, kA⟩
          · obtain rfl : l9 = false := by simpa using hf
            clear hp ho'
            unfold wpOp
            simp only [pkIf_true]
            go_simp
            exact .inl ⟨l0, l1, l2, l3, l4, l5, l6, l7, l8, true, l10, l11, l12, l13, l14, l15, l16, l17, l18, l19, l20, l21, l22, A, V, rfl, rfl, hb, hO, hA, kA⟩
          · obtain rfl : l10 = false := by simpa using hf
            cases ho'
            obtain rfl : l8 = true := by simpa using hp ⟨8, .data⟩ (by simp) rfl
            obtain rfl : l9 = true := by simpa using hp ⟨9, .data⟩ (by simp) rfl
            clear hp
            unfold wpOp
            simp only [pkIf_true]
            go_simp
            exact .inl ⟨l0, l1, l2, l3, l4, l5, l6, l7, true, true, true, l11, l12, l13, l14, l15, l16, l17, l18, l19, l20, l21, l22, A, V, rfl, rfl, hb, hO, hA, kA⟩
          · obtain rfl : l11 = false := by simpa using hf
            cases ho'
            obtain rfl : l10 = true := by simpa using hp ⟨10, .data⟩ (by simp) rfl
            clear hp
            unfold wpOp
            simp only [pkIf_true]
            go_simp
            exact .inl ⟨l0, l1, l2, l3, l4, l5, l6, l7, l8, l9, true, true, l12, l13, l14, l15, l16, l17, l18, l19, l20, l21, l22, A, V, rfl, rfl, hb, hO, hA, kA⟩
          · obtain rfl : l12 = false := by simpa using hf
            cases ho'
            obtain rfl : l11 = true := by simpa using hp ⟨11, .data⟩ (by simp) rfl
            clear hp
            unfold wpOp
            simp only [pkIf_true]
            go_simp
            exact .inl ⟨l0, l1, l2, l3, l4, l5, l6, l7, l8, l9, l10, true, true, l13, l14, l15, l16, l17, l18, l19, l20, l21, l22, A, V, rfl, rfl, hb, hO, hA, kA⟩
          · obtain rfl : l13 = false := by simpa using hf
            clear hp ho'
            unfold wpOp
            simp only [pkIf_true]
            go_simp
            exact .inl ⟨l0, l1, l2, l3, l4, l5, l6, l7, l8, l9, l10, l11, l12, true, l14, l15, l16, l17, l18, l19, l20, l21, l22, A, V, rfl, rfl, hb, hO, hA, kA⟩
          · obtain rfl : l14 = false := by simpa using hf
            clear hp ho'
            unfold wpOp
            simp only [pkIf_true]
            go_simp
            exact .inl ⟨l0, l1, l2, l3, l4, l5, l6, l7, l8, l9, l10, l11, l12, l13, true, l15, l16, l17, l18, l19, l20, l21, l22, A, V, rfl, rfl, hb, hO, hA, kA⟩
          · obtain rfl : l15 = false := by simpa using hf
            cases ho'
            obtain rfl : l14 = true := by simpa using hp ⟨14, .data⟩ (by simp) rfl
            clear hp
            unfold wpOp
            simp only [pkIf_true]
            go_simp
            exact .inl ⟨l0, l1, l2, l3, l4, l5, l6, l7, l8, l9, l10, l11, l12, l13, true, true, l16, l17, l18, l19, l20, l21, l22, A, V, rfl, rfl, hb, hO, hA, kA⟩
          · obtain rfl : l16 = false := by simpa using hf
            clear hp ho'
            unfold wpOp
            simp only [pkIf_true]
            go_simp
            exact .inl ⟨l0, l1, l2, l3, l4, l5, l6, l7, l8, l9, l10, l11, l12, l13, l14, l15, true, l17, l18, l19, l20, l21, l22, A, V, rfl, rfl, hb, hO, hA, kA⟩
          · obtain rfl : l17 = false := by simpa using hf
            cases ho'
            obtain rfl : l15 = true := by simpa using hp ⟨15, .data⟩ (by simp) rfl
            obtain rfl : l16 = true := by simpa using hp ⟨16, .data⟩ (by simp) rfl
            clear hp
            unfold wpOp
            simp only [pkIf_true]
            go_simp
            exact .inl ⟨l0, l1, l2, l3, l4, l5, l6, l7, l8, l9, l10, l11, l12, l13, l14, true, true, true, l18, l19, l20, l21, l22, A, V, rfl, rfl, hb, hO, hA, kA⟩
          · obtain rfl : l18 = false := by simpa using hf
            cases ho'
            obtain rfl : l17 = true := by simpa using hp ⟨17, .data⟩ (by simp) rfl
            clear hp
            unfold wpOp
            simp only [pkIf_true]
            go_simp
            exact .inl ⟨l0, l1, l2, l3, l4, l5, l6, l7, l8, l9, l10, l11, l12, l13, l14, l15, l16, true, true, l19, l20, l21, l22, A, V, rfl, rfl, hb, hO, hA, kA⟩
          · obtain rfl : l19 = false := by simpa using hf
            cases ho'
            obtain rfl : l13 = true := by simpa using hp ⟨13, .data⟩ (by simp) rfl
            obtain rfl : l18 = true := by simpa using hp ⟨18, .data⟩ (by simp) rfl
            clear hp
            unfold wpOp
            simp only [pkIf_true]
            go_simp
            refine .inl ((HAL.out w' hb).mono ?_)
            rintro e w9 ⟨rfl, hb9⟩
            exact ⟨l0, l1, l2, l3, l4, l5, l6, l7, l8, l9, l10, l11, l12, true, l14, l15, l16, l17, true, true, l20, l21, l22, A, V, rfl, rfl, hb.trans (hb9.mono hb.size), ownBelow hO hb9, (fun q1 q2 => ⟨(hb9.block _ (Array.getElem?_eq_some_iff.1 (hA q1 q2).1).1).trans (hA q1 q2).1, (hA q1 q2).2⟩), kA⟩
          · obtain rfl : l20 = false := by simpa using hf
            cases ho'
            obtain rfl : l6 = true := by simpa using hp ⟨6, .data⟩ (by simp) rfl
            obtain rfl : l12 = true := by simpa using hp ⟨12, .data⟩ (by simp) rfl
            obtain rfl : l19 = true := by simpa using hp ⟨19, .data⟩ (by simp) rfl
            clear hp
            unfold wpOp
            simp only [pkIf_true]
            go_simp
            exact .inl ⟨l0, l1, l2, l3, l4, l5, true, l7, l8, l9, l10, l11, true, l13, l14, l15, l16, l17, l18, true, true, l21, l22, A, V, rfl, rfl, hb, hO, hA, kA⟩
          · obtain rfl : l21 = false := by simpa using hf
            obtain rfl : l22 = false := by
              cases l22 with
              | false => rfl
              | true => exact absurd (kA rfl) (by decide)
            cases ho'
            obtain rfl : l20 = true := by simpa using hp ⟨20, .data⟩ (by simp) rfl
            clear hp
            unfold wpOp
            simp only [pkIf_true]
            go_simp
            simp only [Bool.false_eq_true, if_false] at hO
            exact .inl ⟨l0, l1, l2, l3, l4, l5, l6, l7, l8, l9, l10, l11, l12, l13, l14, l15, l16, l17, l18, l19, true, true, false, w'.heap.size, V, rfl, rfl, hb.alloc hb.size _, by simpa using hO.alloc _, (fun _ _ => ⟨heap_alloc_new _ _, fun e => Nat.lt_irrefl _ (World.ownsRow.lt hO _ e).2⟩), (fun h => by cases h)⟩
          · obtain rfl : l22 = false := by simpa using hf
            cases ho'
            obtain rfl : l0 = true := by simpa using hp ⟨0, .data⟩ (by simp) rfl
            obtain rfl : l21 = true := by simpa using hp ⟨21, .data⟩ (by simp) rfl
            clear hp
            obtain ⟨f1, f2⟩ := hA rfl rfl
            simp only [Bool.false_eq_true, if_false] at hO
            unfold wpOp
            simp only [pkIf_true, List.getElem?_toArray, List.getElem?_cons_succ, List.getElem?_cons_zero]
            refine ifWanted rfl (append_at_wp _ _ 114 rfl Z.heap.size 181 i0 (.agg #[.int .i64 0, .int .i64 0, .int .i64 0, .int .i64 0, .bool false]) 5 40 Tryz.underlying114 hi0 hz0 hz1 hz2 rfl (by decide) _ N XS rfl hO ⟨A, 0, none⟩ 1 1 [.int .i64 x0, .int .i64 x2, .int .i64 lo, .int .i64 hi, .bool no] rfl rfl (fun j u hu => cell_add f1 j u hu) (by simp [Value.oneCell']) (by unfold maxLen; omega) (by omega) hb.size ?_)
            intro v' w9 hown hgr hat
            exact ⟨true, l1, l2, l3, l4, l5, l6, l7, l8, l9, l10, l11, l12, l13, l14, l15, l16, l17, l18, l19, l20, true, true, A, v', rfl, rfl, hb.grown hgr hb.size (fun j e => (World.ownsRow.lt hO j e).1), by simpa using hown, (fun _ h => by cases h), fun _ => rfl⟩
        case hend =>
          rintro listed a w1 ⟨l0, l1, l2, l3, l4, l5, l6, l7, l8, l9, l10, l11, l12, l13, l14, l15, l16, l17, l18, l19, l20, l21, l22, A, V, rfl, rfl, hb, hO, hA, kA⟩ hall
          have hal : l0 = true ∧ l1 = true ∧ l2 = true ∧ l3 = true ∧ l4 = true ∧ l5 = true ∧ l6 = true ∧ l7 = true ∧ l8 = true ∧ l9 = true ∧ l10 = true ∧ l11 = true ∧ l12 = true ∧ l13 = true ∧ l14 = true ∧ l15 = true ∧ l16 = true ∧ l17 = true ∧ l18 = true ∧ l19 = true ∧ l20 = true ∧ l21 = true ∧ l22 = true := ⟨by simpa using hall 0 (by decide), by simpa using hall 1 (by decide), by simpa using hall 2 (by decide), by simpa using hall 3 (by decide), by simpa using hall 4 (by decide), by simpa using hall 5 (by decide), by simpa using hall 6 (by decide), by simpa using hall 7 (by decide), by simpa using hall 8 (by decide), by simpa using hall 9 (by decide), by simpa using hall 10 (by decide), by simpa using hall 11 (by decide), by simpa using hall 12 (by decide), by simpa using hall 13 (by decide), by simpa using hall 14 (by decide), by simpa using hall 15 (by decide), by simpa using hall 16 (by decide), by simpa using hall 17 (by decide), by simpa using hall 18 (by decide), by simpa using hall 19 (by decide), by simpa using hall 20 (by decide), by simpa using hall 21 (by decide), by simpa using hall 22 (by decide)⟩
          obtain ⟨rfl, rfl, rfl, rfl, rfl, rfl, rfl, rfl, rfl, rfl, rfl, rfl, rfl, rfl, rfl, rfl, rfl, rfl, rfl, rfl, rfl, rfl, rfl⟩ := hal
          simp only [if_true] at hO
          have HB9 := Lib.hid hb
          have HO9 := Lib.hid hO
          simp only [pkIf_true, List.drop_succ_cons, List.drop_zero]
          clear hall hb hO hA kA
          go_wp2_with fail
          go_roundw
          case rel => exact ⟨k + 1, V, HKL.out, rfl, by go_num, HB9, Lib.hid (by rw [HN.out, List.length_append, List.flatMap_append, HNX.out.1, HNX.out.2]; exact HO9.out)⟩
          case measure => have := HKL.out; simp [intOf]; omega
    · obtain rfl : k = ks.length := by omega
      have HOE : Hid (wr.ownsRow Z.heap.size 181 5 o (thL ⟨zi, zx, zy, zf, zt, zl, zh, dr⟩ ks).length ((thL ⟨zi, zx, zy, zf, zt, zl, zh, dr⟩ ks).flatMap Th.tge)) := Lib.hid (by have h := hO.out; rwa [List.take_length] at h)
      go_wp2_with fail
      go_ret
      exact ⟨_, rfl, TgRow.of_own HOE.out, HBZ.out _ hB.out⟩
end Go.Proofs.YtebdboacmeafaaaGreat
