/- Package circle: dialOf. -/
import Derived.Test.YtpaihnjgpookjaaCB5
set_option linter.unusedVariables false
set_option linter.unusedSimpArgs false
namespace Go.Proofs.Ytpaihnjgpookjaa
open Go Go.RowKit

/-- A check as a thing. -/
def Th.of (x y : Int) (k : Ck) : Th := ⟨k.id, k.c, k.t, k.x, k.y, k.s, k.sl, if alB x y k = true then alL x y k else 0, if alB x y k = true then alH x y k else 0, !alB x y k⟩
def Th.beg (z : Ci) : Th := ⟨0, 0, z.f, 0, 0, 0, 0, z.lo, z.hi, false⟩
/-- The things of a circle. -/
def thL (z : Ci) (ks : List Ck) : List Th := Th.beg z :: (ks.filter fun k => k.c == z.id).map (Th.of z.x z.y)
/-- A list in the order of its numbers. -/
def OrdH (L l : List Th) : Prop := L.Perm l ∧ L.Pairwise fun s t => s.id < t.id
theorem thL_take {z : Ci} {ks : List Ck} {k : Nat} (hk : k < ks.length) : thL z (ks.take (k + 1)) = if (ks.getD k .nil).c == z.id then thL z (ks.take k) ++ [Th.of z.x z.y (ks.getD k .nil)] else thL z (ks.take k) := by
  unfold thL
  rw [List.take_succ_eq_append_getElem hk, List.filter_append, List.map_append, List.getD_eq_getElem?_getD, List.getElem?_eq_getElem hk]
  simp only [Option.getD_some]
  cases h : (ks[k].c == z.id) <;> simp [h]
theorem ck_ids {cs : List Ci} {ks : List Ck} (h : CcOk cs ks) : ks.Pairwise fun a b => a.id ≠ b.id := by
  rw [List.pairwise_iff_getElem]
  intro i j hi hj hij
  have h1 := (h.ck j hj).2
  have e1 : ks.getD j .nil = ks[j] := by rw [List.getD_eq_getElem?_getD, List.getElem?_eq_getElem hj]; rfl
  rw [e1] at h1
  unfold ckF at h1
  rw [List.find?_eq_none] at h1
  have h2 := h1 ks[i] (List.mem_take_iff_getElem.2 ⟨i, by omega, rfl⟩)
  simpa using h2
theorem thL_ids {cs : List Ci} {ks : List Ck} (h : CcOk cs ks) (z : Ci) : ((thL z ks).map Th.id).Nodup := by
  unfold thL
  rw [List.map_cons, List.map_map, List.nodup_cons]
  constructor
  · intro hm
    obtain ⟨k, hk, he⟩ := List.mem_map.1 hm
    obtain ⟨j, hj, hjk⟩ := List.getElem_of_mem ((List.mem_filter.1 hk).1)
    obtain ⟨⟨y, hy⟩, _⟩ := h.ck j hj
    have e1 : ks.getD j .nil = k := by rw [List.getD_eq_getElem?_getD, List.getElem?_eq_getElem hj]; exact hjk
    rw [e1] at hy
    have := hy.id
    have he2 : k.id = 0 := he
    omega
  · have h2 := ((ck_ids h).filter (fun k => k.c == z.id))
    rw [List.nodup_iff_pairwise_ne, List.pairwise_map]
    exact h2.imp fun hab => hab
/-- A row of things that lies in a block of things. -/
def ThOwn (w : World) (v : Value) : Prop := ∃ g n cap C, v = .slice (some ⟨g, 0, none⟩) n cap ∧ w.heap[g]? = some (.cells C 125 (0, 0))
/-- What dialOf returns. -/
def DiOut (R : Option Ci) (ks : List Ck) (w : World) (e : Ending) (w' : World) : Prop :=
  Below w.heap.size w w' ∧ match R with
    | none => e = .returned (.tuple #[.agg #[.int .i64 0, .int .i64 0, .int .i64 0, .int .i64 0, .int .i64 0, .int .i64 0, .int .i64 0, .int .i64 0, .slice none 0 0], .bool false])
    | some z => ∃ v L, e = .returned (.tuple #[.agg #[.int .i64 z.id, .int .i64 z.x, .int .i64 z.y, .int .i64 z.f, .int .i64 z.t, .int .i64 z.lo, .int .i64 z.hi, .int .i64 z.dr, v], .bool true]) ∧ ThRow w' v L ∧ OrdH L (thL z ks) ∧ ThOwn w' v
theorem info_di9 : (Try.prog.info? 112).map (·.size) = some 9 := by kernel_rfl
theorem set9 {w W : World} {q : Nat} {t : TypeId} {x0 x1 x2 x3 x4 x5 x6 x7 x8 : Value} (h : W.heap[q]? = some (Obj.cells #[x0, x1, x2, x3, x4, x5, x6, x7, x8] t (0, 0))) (hb : Below w.heap.size w W) (hq : w.heap.size ≤ q) (y0 y1 y2 y3 y4 y5 y6 y7 y8 : Value) :
    (((((((((W.setCell ⟨q, 0, none⟩ y0).setCell ⟨q, 1, none⟩ y1).setCell ⟨q, 2, none⟩ y2).setCell ⟨q, 3, none⟩ y3).setCell ⟨q, 4, none⟩ y4).setCell ⟨q, 5, none⟩ y5).setCell ⟨q, 6, none⟩ y6).setCell ⟨q, 7, none⟩ y7).setCell ⟨q, 8, none⟩ y8).heap[q]? = some (Obj.cells #[y0, y1, y2, y3, y4, y5, y6, y7, y8] t (0, 0)) ∧ Below w.heap.size w (((((((((W.setCell ⟨q, 0, none⟩ y0).setCell ⟨q, 1, none⟩ y1).setCell ⟨q, 2, none⟩ y2).setCell ⟨q, 3, none⟩ y3).setCell ⟨q, 4, none⟩ y4).setCell ⟨q, 5, none⟩ y5).setCell ⟨q, 6, none⟩ y6).setCell ⟨q, 7, none⟩ y7).setCell ⟨q, 8, none⟩ y8) := by
  have s0 := setS ⟨h, hb⟩ hq 0 y0
  have s1 := setS s0 hq 1 y1
  have s2 := setS s1 hq 2 y2
  have s3 := setS s2 hq 3 y3
  have s4 := setS s3 hq 4 y4
  have s5 := setS s4 hq 5 y5
  have s6 := setS s5 hq 6 y6
  have s7 := setS s6 hq 7 y7
  have s8 := setS s7 hq 8 y8
  simp only [List.setIfInBounds_toArray, List.set_cons_zero, List.set_cons_succ] at s8
  exact s8
theorem cell_add {w : World} {g : Nat} {C : Array Value} {t : TypeId} {f : Nat × Nat} (h : w.heap[g]? = some (.cells C t f)) (j : Nat) (u : Value) (hu : C.toList[j]? = some u) : w.cell? ((⟨g, 0, none⟩ : Addr).add j) = some u := by
  have e : (⟨g, 0, none⟩ : Addr).add j = ⟨g, j, none⟩ := by unfold Addr.add; split <;> simp_all
  rw [e, cellH h, ← Array.getElem?_toList]; exact hu
theorem own_neC {w : World} {b c : Nat} {e t : TypeId} {size : Nat} {v : Value} {n : Nat} {xs : List Value} {C : Array Value} {f : Nat × Nat} (h : w.ownsRow c e size v n xs) (hc : w.heap[b]? = some (.cells C t f)) (ht : t ≠ e) : v.ownBlock ≠ some b := by
  rcases h with ⟨h1, ⟨rfl, _⟩ | ⟨g, cap, cur, rfl, k2, k3, _⟩⟩
  · simp [Value.ownBlock]
  · intro q
    obtain rfl : g = b := by simpa [Value.ownBlock] using q
    rw [k3] at hc; cases hc; exact ht rfl
theorem row_formC {w : World} {base : Nat} {e : TypeId} {size : Nat} {v : Value} {n : Nat} {xs : List Value} (h : w.ownsRow base e size v n xs) : ∃ a c, v = .slice a n c := by
  rcases h.2 with ⟨rfl, rfl⟩ | ⟨g, cap, cur, rfl, _⟩
  · exact ⟨none, 0, rfl⟩
  · exact ⟨_, cap, rfl⟩
theorem row_formP {w : World} {base : Nat} {e : TypeId} {size : Nat} {v : Value} {n : Nat} {xs : List Value} (h : w.ownsRow base e size v n xs) (hn : 0 < n) : ∃ g cap, v = .slice (some ⟨g, 0, none⟩) n cap ∧ base ≤ g ∧ g < w.heap.size := by
  rcases h.2 with ⟨rfl, h0⟩ | ⟨g, cap, cur, rfl, hb, hg, _⟩
  · omega
  · exact ⟨g, cap, rfl, hb, (Array.getElem?_eq_some_iff.1 hg).1⟩
theorem ThRow.same {w w' : World} {b off n cap : Nat} {l : List Th} (h : ThRow w (.slice (some ⟨b, off, none⟩) n cap) l) (hh : w'.heap[b]? = w.heap[b]?) : ThRow w' (.slice (some ⟨b, off, none⟩) n cap) l := by
  have hc : ∀ o, w'.cell? ⟨b, o, none⟩ = w.cell? ⟨b, o, none⟩ := fun o => by unfold World.cell?; rw [hh]
  rcases h with h | ⟨b', off', c, hv, hp, h1, hat⟩
  · exact .inl h
  · cases hv
    refine .inr ⟨b, off, cap, rfl, hp, ?_, fun i hi => ?_⟩
    · rw [Array.getElem?_eq_getElem h1] at hh
      exact (Array.getElem?_eq_some_iff.1 hh).1
    · have h2 := hat i hi
      unfold ThAt at h2 ⊢
      simp only [hc]
      exact h2
theorem other9 (W : World) (q : Nat) (y0 y1 y2 y3 y4 y5 y6 y7 y8 : Value) (b : Nat) (hne : b ≠ q) : (((((((((W.setCell ⟨q, 0, none⟩ y0).setCell ⟨q, 1, none⟩ y1).setCell ⟨q, 2, none⟩ y2).setCell ⟨q, 3, none⟩ y3).setCell ⟨q, 4, none⟩ y4).setCell ⟨q, 5, none⟩ y5).setCell ⟨q, 6, none⟩ y6).setCell ⟨q, 7, none⟩ y7).setCell ⟨q, 8, none⟩ y8).heap[b]? = W.heap[b]? := by
  rw [heap_other _ _ _ _ _ hne, heap_other _ _ _ _ _ hne, heap_other _ _ _ _ _ hne, heap_other _ _ _ _ _ hne, heap_other _ _ _ _ _ hne, heap_other _ _ _ _ _ hne, heap_other _ _ _ _ _ hne, heap_other _ _ _ _ _ hne, heap_other _ _ _ _ _ hne]
theorem own_setC {w : World} {q c : Nat} {e t : TypeId} {size : Nat} {v : Value} {n : Nat} {xs : List Value} {C : Array Value} {f : Nat × Nat} (h : w.ownsRow c e size v n xs) (hq : w.heap[q]? = some (.cells C t f)) (ht : t ≠ e) (j : Nat) (u : Value) : (w.setCell ⟨q, j, none⟩ u).ownsRow c e size v n xs :=
  h.kept (row := some q) ⟨rfl, rfl, rfl, by simp, fun b hb hn => heap_other _ _ _ _ _ (fun e => hn (by rw [e]))⟩ (.inr (own_neC h hq ht))
set_option maxRecDepth 100000 in
set_option maxHeartbeats 8000000 in
theorem dialOf_any (v1 v2 : Value) (cs : List Ci) (ks : List Ck) (id : Int) (w : World) (hv1 : CiRow w v1 cs) (hv2 : CkRow w v2 ks) (ho : CcOk cs ks) :
    Calls Try.prog 76 #[.agg #[v1, v2], .int .i64 id] w fun e w' => DiOut (ciF cs id) ks w e w' := by
  have HV1 := Lib.hid hv1
  have HV2 := Lib.hid hv2
  have HO := Lib.hid ho
  obtain ⟨a1, c1, rfl, _⟩ := hv1.form
  obtain ⟨a2, c2, rfl, hc2⟩ := hv2.form
  have HC2 := Lib.hid hc2
  have HCO := Lib.hid (fun w' (h : Below w.heap.size w w') => circleOf_any (.slice a1 cs.length c1) cs id w' (hv1.keep h) (by have := ho.n; omega))
  have HMEM := Lib.hid (fun z => ciF_mem (l := cs) (id := id) (k := z))
  obtain ⟨R, hR⟩ : ∃ z, ciF cs id = z := ⟨_, rfl⟩
  rw [hR] at HCO HMEM ⊢
  clear hR hv1 hv2 hc2 ho
  have HA := Lib.hid (fun W' => two_cells w #[.slice a1 cs.length c1, .slice a2 ks.length c2] #[.int .i64 0, .int .i64 0, .int .i64 0, .int .i64 0, .int .i64 0, .int .i64 0, .int .i64 0, .int .i64 0, .slice none 0 0] 46 112 (W := W'))
  have HB0 := Lib.hid (Below.refl ((w.alloc (.cells #[.slice a1 cs.length c1, .slice a2 ks.length c2] 46)).alloc (.cells #[.int .i64 0, .int .i64 0, .int .i64 0, .int .i64 0, .int .i64 0, .int .i64 0, .int .i64 0, .int .i64 0, .slice none 0 0] 112)).heap.size ((w.alloc (.cells #[.slice a1 cs.length c1, .slice a2 ks.length c2] 46)).alloc (.cells #[.int .i64 0, .int .i64 0, .int .i64 0, .int .i64 0, .int .i64 0, .int .i64 0, .int .i64 0, .int .i64 0, .slice none 0 0] 112)))
  obtain ⟨Z, hZ⟩ : ∃ Z, (w.alloc (.cells #[.slice a1 cs.length c1, .slice a2 ks.length c2] 46)).alloc (.cells #[.int .i64 0, .int .i64 0, .int .i64 0, .int .i64 0, .int .i64 0, .int .i64 0, .int .i64 0, .int .i64 0, .slice none 0 0] 112) = Z := ⟨_, rfl⟩
  rw [hZ] at HA HB0
  have HZ := Lib.hid hZ
  have HRD : Hid (∀ W', Below Z.heap.size Z W' → (W'.cell? ⟨w.heap.size, 0, none⟩ = some (.slice a1 cs.length c1) ∧ W'.cell? ⟨w.heap.size, 1, none⟩ = some (.slice a2 ks.length c2)) ∧ W'.heap[w.heap.size + 1]? = some (.cells #[.int .i64 0, .int .i64 0, .int .i64 0, .int .i64 0, .int .i64 0, .int .i64 0, .int .i64 0, .int .i64 0, .slice none 0 0] 112 (0, 0)) ∧ Below w.heap.size w W') := Lib.hid (fun W' h => by
    obtain ⟨z0, z1, _, zb⟩ := HA.out W' h
    exact ⟨⟨cellH z0 0, cellH z0 1⟩, z1, zb⟩)
  clear hZ
  obtain ⟨i0, hi0, hz0, hz1, hz2⟩ := info_parts info_th
  go_enter Try.func76, Try.ntmps76
  go_wp2_with fail
  rw [HZ.out]
  refine (HCO.out Z (HRD.out Z HB0.out).2.2).mono ?_
  cases R with
  | none =>
    simp only [Option.getD_none, Ci.nil, Option.isSome_none]
    rintro e w1 ⟨rfl, hb1⟩
    have HB1 := Lib.hid (HB0.out.trans (hb1.trans ((Below.refl _ w1).alloc (Nat.le_trans (Nat.le_refl _) hb1.size) (.cells #[.int .i64 0, .int .i64 0, .int .i64 0, .int .i64 0, .int .i64 0, .int .i64 0, .int .i64 0, .int .i64 0] 99))))
    obtain ⟨w2, hw2⟩ : ∃ X, w1.alloc (.cells #[.int .i64 0, .int .i64 0, .int .i64 0, .int .i64 0, .int .i64 0, .int .i64 0, .int .i64 0, .int .i64 0] 99) = X := ⟨_, rfl⟩
    rw [hw2] at HB1
    have HW2 := Lib.hid hw2
    obtain ⟨_, z0, zb⟩ := HRD.out w2 HB1.out
    have r0 := cellH z0 0
    have r1 := cellH z0 1
    have r2 := cellH z0 2
    have r3 := cellH z0 3
    have r4 := cellH z0 4
    have r5 := cellH z0 5
    have r6 := cellH z0 6
    have r7 := cellH z0 7
    have r8 := cellH z0 8
    have rf := freeH z0
    simp only [List.getElem?_toArray, List.getElem?_cons_zero, List.getElem?_cons_succ] at r0 r1 r2 r3 r4 r5 r6 r7 r8
    have HZ0 := Lib.hid z0
    have HZB := Lib.hid zb
    rw [← hw2] at r0 r1 r2 r3 r4 r5 r6 r7 r8 rf
    clear hw2 z0 zb hb1
    go_wp2_with fail
    rw [HW2.out]
    obtain ⟨z1, z2⟩ := set9 HZ0.out HZB.out (by omega) (.int .i64 0) (.int .i64 0) (.int .i64 0) (.int .i64 0) (.int .i64 0) (.int .i64 0) (.int .i64 0) (.int .i64 0) (.slice none 0 0)
    refine bodyPost_ret (res_ct Try.results76 _ _ (w.heap.size + 1) 112 #[.int .i64 0, .int .i64 0, .int .i64 0, .int .i64 0, .int .i64 0, .int .i64 0, .int .i64 0, .int .i64 0, .slice none 0 0] (0, 0) _ rfl z1 Try.underlying112 rfl info_di9) rfl ?_
    exact ⟨z2, rfl⟩
  | some z =>
    obtain ⟨_, _, _, hzid⟩ := HMEM.out z rfl
    obtain ⟨zi, zx, zy, zf, zt, zl, zh, zd⟩ := z
    simp only [Option.getD_some, Option.isSome_some]
    simp only at hzid
    subst hzid
    rintro e w1 ⟨rfl, hb1⟩
    have HB1 := Lib.hid (HB0.out.trans hb1)
    clear hb1
    obtain ⟨b1, hb1⟩ : ∃ y, w1.heap.size = y := ⟨_, rfl⟩
    obtain ⟨W3, hW3⟩ : ∃ X, ((w1.alloc (.cells #[.int .i64 zi, .int .i64 zx, .int .i64 zy, .int .i64 zf, .int .i64 zt, .int .i64 zl, .int .i64 zh, .int .i64 zd] 99)).alloc (.cells #[.int .i64 0, .int .i64 0, .int .i64 zf, .int .i64 0, .int .i64 0, .int .i64 0, .int .i64 0, .int .i64 zl, .int .i64 zh, .bool false] 125)).alloc (.cells #[.int .i64 zi, .int .i64 zx, .int .i64 zy, .int .i64 zf, .int .i64 zt, .int .i64 zl, .int .i64 zh, .int .i64 zd, .slice (some ⟨b1 + 1, 0, none⟩) 1 1] 112) = X := ⟨_, rfl⟩
    have HW3 := Lib.hid hW3
    have H3 := Lib.hid (cells3 w1 #[.int .i64 zi, .int .i64 zx, .int .i64 zy, .int .i64 zf, .int .i64 zt, .int .i64 zl, .int .i64 zh, .int .i64 zd] #[.int .i64 0, .int .i64 0, .int .i64 zf, .int .i64 0, .int .i64 0, .int .i64 0, .int .i64 0, .int .i64 zl, .int .i64 zh, .bool false] #[.int .i64 zi, .int .i64 zx, .int .i64 zy, .int .i64 zf, .int .i64 zt, .int .i64 zl, .int .i64 zh, .int .i64 zd, .slice (some ⟨b1 + 1, 0, none⟩) 1 1] 99 125 112 (Below.refl _ _))
    rw [hW3, hb1] at H3
    have HB3 := Lib.hid (HB1.out.trans (H3.out.2.2.2.2.mono (by rw [← hb1]; exact HB1.out.size)))
    obtain ⟨⟨q0, q1⟩, _, _⟩ := HRD.out W3 HB3.out
    rw [← hW3] at q1
    have HSB : Hid (Z.heap.size ≤ b1) := Lib.hid (by rw [← hb1]; exact HB1.out.size)
    have HOW : Hid (W3.ownsRow b1 125 10 (.slice (some ⟨b1 + 1, 0, none⟩) 1 1) (thL ⟨zi, zx, zy, zf, zt, zl, zh, zd⟩ (ks.take 0)).length ((thL ⟨zi, zx, zy, zf, zt, zl, zh, zd⟩ (ks.take 0)).flatMap Th.enc)) := Lib.hid
      ⟨rfl, .inr ⟨b1 + 1, 1, _, rfl, by omega, H3.out.2.1, Nat.le_refl _, by decide, rfl, rfl⟩⟩
    clear q0 hW3
    go_wp2_with fail
    rw [HW3.out]
    clear q1 hb1
    go_loopw [35] (fun i wr => ∃ (k : Nat) (v : Value), k ≤ ks.length ∧ i = .int .i64 k ∧ Hid (Below Z.heap.size Z wr) ∧ Hid (wr.heap[b1]? = some (.cells #[.int .i64 zi, .int .i64 zx, .int .i64 zy, .int .i64 zf, .int .i64 zt, .int .i64 zl, .int .i64 zh, .int .i64 zd] 99 (0, 0))) ∧ Hid (wr.heap[b1 + 1 + 1]? = some (.cells #[.int .i64 zi, .int .i64 zx, .int .i64 zy, .int .i64 zf, .int .i64 zt, .int .i64 zl, .int .i64 zh, .int .i64 zd, v] 112 (0, 0))) ∧ Hid (wr.ownsRow b1 125 10 v (thL ⟨zi, zx, zy, zf, zt, zl, zh, zd⟩ (ks.take k)).length ((thL ⟨zi, zx, zy, zf, zt, zl, zh, zd⟩ (ks.take k)).flatMap Th.enc))) (fun i _ => ks.length - (intOf i).toNat)
    case atStart => exact ⟨0, _, Nat.zero_le _, rfl, HB3, Lib.hid H3.out.1, Lib.hid H3.out.2.2.1, HOW⟩
    case round =>
      clear HOW H3
      obtain ⟨k, v, hk, rfl, hB, hC, hD, hO⟩ := hrel
      obtain ⟨sa, sc, rfl⟩ := row_formC hO.out
      obtain ⟨⟨q0, q1⟩, z0, zb⟩ := HRD.out wr hB.out
      have hm := HO.out.m
      by_cases hkl : k < ks.length
      · obtain ⟨b, off, rfl, hb, hat⟩ := HC2.out k hkl
        obtain ⟨e0, e1, e2, e3, e4, e5, e6⟩ := hat.keep zb hb
        obtain ⟨⟨zk, hzk⟩, _⟩ := HO.out.ck k hkl
        have HTK := Lib.hid (thL_take (z := ⟨zi, zx, zy, zf, zt, zl, zh, zd⟩) hkl)
        have hki : (k : Int) < ks.length := by omega
        have hk0 : (0 : Int) ≤ k := by omega
        have HKL := Lib.hid hkl
        have HAL := Lib.hid (fun w' => allowed_any zx zy (ks.getD k .nil) w' hzk.s hzk.sl)
        have HTO : Hid (Th.of zx zy (ks.getD k .nil) = ⟨(ks.getD k .nil).id, (ks.getD k .nil).c, (ks.getD k .nil).t, (ks.getD k .nil).x, (ks.getD k .nil).y, (ks.getD k .nil).s, (ks.getD k .nil).sl, if alB zx zy (ks.getD k .nil) = true then alL zx zy (ks.getD k .nil) else 0, if alB zx zy (ks.getD k .nil) = true then alH zx zy (ks.getD k .nil) else 0, !alB zx zy (ks.getD k .nil)⟩) := Lib.hid rfl
        obtain ⟨X, hX⟩ : ∃ X, ks.getD k .nil = X := ⟨_, rfl⟩
        rw [hX] at e0 e1 e2 e3 e4 e5 e6 HTK HAL HTO
        obtain ⟨B, hBB⟩ : ∃ z, alB zx zy X = z := ⟨_, rfl⟩
        obtain ⟨L, hL⟩ : ∃ z, alL zx zy X = z := ⟨_, rfl⟩
        obtain ⟨Q, hQ⟩ : ∃ z, alH zx zy X = z := ⟨_, rfl⟩
        rw [hBB, hL, hQ] at HAL HTO
        obtain ⟨F1, hF1⟩ : ∃ z, (if B = true then L else 0) = z := ⟨_, rfl⟩
        obtain ⟨F2, hF2⟩ : ∃ z, (if B = true then Q else 0) = z := ⟨_, rfl⟩
        rw [hF1, hF2] at HAL HTO
        clear hX hBB hL hQ hF1 hF2 hzk hat hb zb z0
        obtain ⟨k0, k1, k2, k3, k4, k5, k6⟩ := X
        simp only at e0 e1 e2 e3 e4 e5 e6 HTK HAL HTO
        have HLN : Hid ((thL ⟨zi, zx, zy, zf, zt, zl, zh, zd⟩ (ks.take k)).length ≤ 61) := Lib.hid (by
          unfold thL
          rw [List.length_cons, List.length_map]
          exact Nat.le_trans (Nat.succ_le_succ (Nat.le_trans (List.length_filter_le _ _) (show _ ≤ k by rw [List.length_take]; omega))) (by omega))
        obtain ⟨N, hN⟩ : ∃ N, (thL ⟨zi, zx, zy, zf, zt, zl, zh, zd⟩ (ks.take k)).length = N := ⟨_, rfl⟩
        obtain ⟨XS, hXS⟩ : ∃ N, (thL ⟨zi, zx, zy, zf, zt, zl, zh, zd⟩ (ks.take k)).flatMap Th.enc = N := ⟨_, rfl⟩
        rw [hN] at hD HLN
        rw [hN, hXS] at hO
        have HNX := Lib.hid (show (thL ⟨zi, zx, zy, zf, zt, zl, zh, zd⟩ (ks.take k)).length = N ∧ (thL ⟨zi, zx, zy, zf, zt, zl, zh, zd⟩ (ks.take k)).flatMap Th.enc = XS from ⟨hN, hXS⟩)
        clear hN hXS
        have HBX := Lib.hid (hB.out.alloc hB.out.size (.cells #[.int .i64 k0, .int .i64 k1, .int .i64 k2, .int .i64 k3, .int .i64 k4, .int .i64 k5, .int .i64 k6] 82))
        have HQX : Hid ((wr.alloc (.cells #[.int .i64 k0, .int .i64 k1, .int .i64 k2, .int .i64 k3, .int .i64 k4, .int .i64 k5, .int .i64 k6] 82)).heap[wr.heap.size]? = some (.cells #[.int .i64 k0, .int .i64 k1, .int .i64 k2, .int .i64 k3, .int .i64 k4, .int .i64 k5, .int .i64 k6] 82 (0, 0))) := Lib.hid (heap_alloc_new _ _)
        obtain ⟨vb, hvb⟩ : ∃ z, wr.heap.size = z := ⟨_, rfl⟩
        have HCX : Hid ((wr.alloc (.cells #[.int .i64 k0, .int .i64 k1, .int .i64 k2, .int .i64 k3, .int .i64 k4, .int .i64 k5, .int .i64 k6] 82)).heap[b1]? = some (.cells #[.int .i64 zi, .int .i64 zx, .int .i64 zy, .int .i64 zf, .int .i64 zt, .int .i64 zl, .int .i64 zh, .int .i64 zd] 99 (0, 0))) := Lib.hid ((gNe _ _ _ (Nat.ne_of_lt (Array.getElem?_eq_some_iff.1 hC.out).1)).trans hC.out)
        have HDX := Lib.hid ((gNe wr (.cells #[.int .i64 k0, .int .i64 k1, .int .i64 k2, .int .i64 k3, .int .i64 k4, .int .i64 k5, .int .i64 k6] 82) (b1 + 1 + 1) (Nat.ne_of_lt (Array.getElem?_eq_some_iff.1 hD.out).1)).trans hD.out)
        have HOX := Lib.hid (hO.out.alloc (.cells #[.int .i64 k0, .int .i64 k1, .int .i64 k2, .int .i64 k3, .int .i64 k4, .int .i64 k5, .int .i64 k6] 82))
        rw [hvb] at HQX
        cases hE : (k1 == zi)
        · have HN : Hid (thL ⟨zi, zx, zy, zf, zt, zl, zh, zd⟩ (ks.take (k + 1)) = thL ⟨zi, zx, zy, zf, zt, zl, zh, zd⟩ (ks.take k)) := Lib.hid (by rw [HTK.out]; simp only [hE]; simp)
          go_wp2_with fail
          go_roundw
          case rel => exact ⟨k + 1, _, HKL.out, by go_num, HBX, HCX, HDX, Lib.hid (by rw [HN.out, HNX.out.1, HNX.out.2]; exact HOX.out)⟩
          case measure => have := HKL.out; simp [intOf]; omega
        · have HN : Hid (thL ⟨zi, zx, zy, zf, zt, zl, zh, zd⟩ (ks.take (k + 1)) = thL ⟨zi, zx, zy, zf, zt, zl, zh, zd⟩ (ks.take k) ++ [⟨k0, k1, k2, k3, k4, k5, k6, F1, F2, !B⟩]) := Lib.hid (by rw [HTK.out, if_pos hE, HTO.out])
          have y1 := cellH HCX.out 1
          have y2 := cellH HCX.out 2
          simp only [List.getElem?_toArray, List.getElem?_cons_zero, List.getElem?_cons_succ] at y1 y2
          obtain ⟨wx, hwx⟩ : ∃ X, wr.alloc (.cells #[.int .i64 k0, .int .i64 k1, .int .i64 k2, .int .i64 k3, .int .i64 k4, .int .i64 k5, .int .i64 k6] 82) = X := ⟨_, rfl⟩
          rw [hwx] at HBX HQX HCX HDX HOX
          have HWX := Lib.hid hwx
          clear hwx
          go_wp2_with fail
          rw [HWX.out]
          refine (HAL.out wx).mono ?_
          rintro e w5 ⟨rfl, hb5⟩
          have HB5 := Lib.hid (HBX.out.trans (hb5.mono HBX.out.size))
          have kp := fun {o : Nat} {ob : Obj} (h : wx.heap[o]? = some ob) => (hb5.block _ (Array.getElem?_eq_some_iff.1 h).1).trans h
          have HQ5 := Lib.hid (kp HQX.out)
          have HC5 := Lib.hid (kp HCX.out)
          have HD5 := Lib.hid (kp HDX.out)
          have HO5 := Lib.hid (ownBelow HOX.out hb5)
          clear kp hb5 y1 y2 e0 e1 e2 e3 e4 e5 e6 q0 q1
          obtain ⟨w6, hw6⟩ : ∃ X, w5.alloc (.cells #[.int .i64 F1, .int .i64 F2] 49) = X := ⟨_, rfl⟩
          have HB6 := Lib.hid (HB5.out.alloc HB5.out.size (.cells #[.int .i64 F1, .int .i64 F2] 49))
          have HS6 := Lib.hid (heap_alloc_new w5 (.cells #[.int .i64 F1, .int .i64 F2] 49))
          have kp := fun {o : Nat} {ob : Obj} (h : w5.heap[o]? = some ob) => (gNe w5 (.cells #[.int .i64 F1, .int .i64 F2] 49) o (Nat.ne_of_lt (Array.getElem?_eq_some_iff.1 h).1)).trans h
          have HQ6 := Lib.hid (kp HQ5.out)
          have HD6 := Lib.hid (kp HD5.out)
          have HC6 := Lib.hid (kp HC5.out)
          have HO6 := Lib.hid (HO5.out.alloc (.cells #[.int .i64 F1, .int .i64 F2] 49))
          have s0 := cellH HQ6.out 0
          have s1 := cellH HQ6.out 1
          have s2 := cellH HQ6.out 2
          have s3 := cellH HQ6.out 3
          have s4 := cellH HQ6.out 4
          have s5 := cellH HQ6.out 5
          have s6 := cellH HQ6.out 6
          have d8 := cellH HD6.out 8
          simp only [List.getElem?_toArray, List.getElem?_cons_zero, List.getElem?_cons_succ] at s0 s1 s2 s3 s4 s5 s6 d8
          have hO7 := HO6.out.alloc (.cells #[.int .i64 k0, .int .i64 k1, .int .i64 k2, .int .i64 k3, .int .i64 k4, .int .i64 k5, .int .i64 k6, .int .i64 F1, .int .i64 F2, .bool (!B)] 125)
          have hsz : (w5.alloc (.cells #[.int .i64 F1, .int .i64 F2] 49)).heap.size = w5.heap.size + 1 := by simp
          have HNW := Lib.hid (fun j u => cell_add (heap_alloc_new (w5.alloc (.cells #[.int .i64 F1, .int .i64 F2] 49)) (.cells #[.int .i64 k0, .int .i64 k1, .int .i64 k2, .int .i64 k3, .int .i64 k4, .int .i64 k5, .int .i64 k6, .int .i64 F1, .int .i64 F2, .bool (!B)] 125)) j u)
          rw [hsz] at HNW
          have HB7 := Lib.hid (HB6.out.alloc HB6.out.size (.cells #[.int .i64 k0, .int .i64 k1, .int .i64 k2, .int .i64 k3, .int .i64 k4, .int .i64 k5, .int .i64 k6, .int .i64 F1, .int .i64 F2, .bool (!B)] 125))
          have HD7 := Lib.hid ((gNe (w5.alloc (.cells #[.int .i64 F1, .int .i64 F2] 49)) (.cells #[.int .i64 k0, .int .i64 k1, .int .i64 k2, .int .i64 k3, .int .i64 k4, .int .i64 k5, .int .i64 k6, .int .i64 F1, .int .i64 F2, .bool (!B)] 125) (b1 + 1 + 1) (Nat.ne_of_lt (Array.getElem?_eq_some_iff.1 HD6.out).1)).trans HD6.out)
          have HC7 := Lib.hid ((gNe (w5.alloc (.cells #[.int .i64 F1, .int .i64 F2] 49)) (.cells #[.int .i64 k0, .int .i64 k1, .int .i64 k2, .int .i64 k3, .int .i64 k4, .int .i64 k5, .int .i64 k6, .int .i64 F1, .int .i64 F2, .bool (!B)] 125) b1 (Nat.ne_of_lt (Array.getElem?_eq_some_iff.1 HC6.out).1)).trans HC6.out)
          have hbase : b1 ≤ ((w5.alloc (.cells #[.int .i64 F1, .int .i64 F2] 49)).alloc (.cells #[.int .i64 k0, .int .i64 k1, .int .i64 k2, .int .i64 k3, .int .i64 k4, .int .i64 k5, .int .i64 k6, .int .i64 F1, .int .i64 F2, .bool (!B)] 125)).heap.size := Nat.le_of_lt (Array.getElem?_eq_some_iff.1 HC7.out).1
          have hln := HLN.out
          have hlen : N + 1 ≤ maxLen := by unfold maxLen; omega
          have hby : (N + 1) * 80 ≤ 140737488355328 := by omega
          clear kp hw6 hsz
          go_wp2_with (at_builtin; go_loud (
            refine wpList_append_own _ rfl _ _ 110 rfl b1 125 i0 (.agg #[.int .i64 0, .int .i64 0, .int .i64 0, .int .i64 0, .int .i64 0, .int .i64 0, .int .i64 0, .int .i64 0, .int .i64 0, .bool false]) 10 80 Try.underlying110 hi0 hz0 hz1 hz2 rfl (by decide) _ _ _ rfl hO7 ⟨w5.heap.size + 1, 0, none⟩ 1 1 [.int .i64 k0, .int .i64 k1, .int .i64 k2, .int .i64 k3, .int .i64 k4, .int .i64 k5, .int .i64 k6, .int .i64 F1, .int .i64 F2, .bool (!B)] rfl rfl HNW.out (by simp [Value.oneCell']) hlen hby hbase ?_
            intro v' w9 hown' hgrow _
            obtain ⟨va, vc, rfl⟩ := row_formC hown'
            have HD9 := Lib.hid ((hgrow.block _ (Array.getElem?_eq_some_iff.1 HD7.out).1 (fun e => own_neC hO7 HD7.out (by decide) e.symm)).trans HD7.out)
            have HC9 := Lib.hid ((hgrow.block _ (Array.getElem?_eq_some_iff.1 HC7.out).1 (fun e => own_neC hO7 HC7.out (by decide) e.symm)).trans HC7.out)
            have HB9 := Lib.hid (HB7.out.grown hgrow HB7.out.size (fun j e => Nat.le_trans HSB.out (World.ownsRow.lt hO7 j e).1))
            have HO9 := Lib.hid hown'
            have d8 := cellH HD9.out 8
            have df := freeH HD9.out
            simp only [List.getElem?_toArray, List.getElem?_cons_zero, List.getElem?_cons_succ] at d8
            clear hown' hgrow hO7 hln hlen hby hbase s0 s1 s2 s3 s4 s5 s6))
          have HDE : Hid ((w9.setCell ⟨b1 + 1 + 1, 8, none⟩ (.slice va (N + 1) vc)).heap[b1 + 1 + 1]? = some (.cells #[.int .i64 zi, .int .i64 zx, .int .i64 zy, .int .i64 zf, .int .i64 zt, .int .i64 zl, .int .i64 zh, .int .i64 zd, .slice va (N + 1) vc] 112 (0, 0))) := Lib.hid (heap_same HD9.out 8 _)
          have HCEQ := Lib.hid ((heap_other w9 (b1 + 1 + 1) 8 (.slice va (N + 1) vc) b1 (by omega)).trans HC9.out)
          have HBE := Lib.hid (HB9.out.setCell (p := ⟨b1 + 1 + 1, 8, none⟩) (by have := HSB.out; simp only; omega) (.slice va (N + 1) vc))
          have HOE := Lib.hid (own_setC HO9.out HD9.out (by decide) 8 (.slice va (N + 1) vc))
          go_roundw
          case rel => exact ⟨k + 1, _, HKL.out, by go_num, HBE, HCEQ, HDE, Lib.hid (by rw [HN.out, List.length_append, List.flatMap_append, HNX.out.1, HNX.out.2]; exact HOE.out)⟩
          case measure => have := HKL.out; simp [intOf]; omega
      · obtain rfl : k = ks.length := by omega
        have hTE : ks.take ks.length = ks := List.take_length
        rw [hTE] at hO hD
        have HOF := Lib.hid hO.out
        have d8 := cellH hD.out 8
        simp only [List.getElem?_toArray, List.getElem?_cons_zero, List.getElem?_cons_succ] at d8
        have HBF := Lib.hid hB.out
        have HDF := Lib.hid hD.out
        have HIDS := Lib.hid (thL_ids HO.out ⟨zi, zx, zy, zf, zt, zl, zh, zd⟩)
        have HNZ : Hid (0 < (thL ⟨zi, zx, zy, zf, zt, zl, zh, zd⟩ ks).length ∧ (thL ⟨zi, zx, zy, zf, zt, zl, zh, zd⟩ ks).length ≤ 61) := Lib.hid (by
          unfold thL
          rw [List.length_cons, List.length_map]
          exact ⟨Nat.succ_pos _, Nat.le_trans (Nat.succ_le_succ (List.length_filter_le _ _)) (by omega)⟩)
        obtain ⟨g, cap, hge, hgb, hgl⟩ := row_formP hO.out HNZ.out.1
        cases hge
        have HSO := Lib.hid (hsort_some HIDS.out (by have := HNZ.out.2; omega) wr hO.out)
        have HNE := Lib.hid (own_neC hO.out hD.out (by decide))
        clear hTE hO hD hC hB hm hk hkl q0 q1 z0 zb
        go_wp2_with fail
        refine HSO.out.mono ?_
        rintro e w2 ⟨rfl, L, hL, hpw, hpm, hgr, hcl⟩
        have HCL := Lib.hid hcl
        have HBG := Lib.hid (HBF.out.grown hgr HBF.out.size (fun j e => by cases e; exact Nat.le_trans HSB.out hgb))
        have HDG := Lib.hid ((hgr.block _ (Array.getElem?_eq_some_iff.1 HDF.out).1 (fun e => HNE.out (by cases e; rfl))).trans HDF.out)
        obtain ⟨_, z0, zb⟩ := HRD.out w2 HBG.out
        have HZ0 := Lib.hid z0
        have HZB := Lib.hid zb
        have HLL := Lib.hid hL
        have HOR := Lib.hid (show OrdH L (thL ⟨zi, zx, zy, zf, zt, zl, zh, zd⟩ ks) from ⟨hpm, hpw⟩)
        have r0 := cellH z0 0
        have r1 := cellH z0 1
        have r2 := cellH z0 2
        have r3 := cellH z0 3
        have r4 := cellH z0 4
        have r5 := cellH z0 5
        have r6 := cellH z0 6
        have r7 := cellH z0 7
        have r8 := cellH z0 8
        have g0 := cellH HDG.out 0
        have g1 := cellH HDG.out 1
        have g2 := cellH HDG.out 2
        have g3 := cellH HDG.out 3
        have g4 := cellH HDG.out 4
        have g5 := cellH HDG.out 5
        have g6 := cellH HDG.out 6
        have g7 := cellH HDG.out 7
        have g8 := cellH HDG.out 8
        have rf := freeH z0
        simp only [List.getElem?_toArray, List.getElem?_cons_zero, List.getElem?_cons_succ] at r0 r1 r2 r3 r4 r5 r6 r7 r8 g0 g1 g2 g3 g4 g5 g6 g7 g8
        clear hL hpw hpm hgr hcl z0 zb d8
        go_wp2_with fail
        obtain ⟨z1, z2⟩ := set9 HZ0.out HZB.out (by omega) (.int .i64 zi) (.int .i64 zx) (.int .i64 zy) (.int .i64 zf) (.int .i64 zt) (.int .i64 zl) (.int .i64 zh) (.int .i64 zd) (.slice (some ⟨g, 0, none⟩) (thL ⟨zi, zx, zy, zf, zt, zl, zh, zd⟩ ks).length sc)
        refine bodyPost_ret (res_ct Try.results76 _ _ (w.heap.size + 1) 112 #[.int .i64 zi, .int .i64 zx, .int .i64 zy, .int .i64 zf, .int .i64 zt, .int .i64 zl, .int .i64 zh, .int .i64 zd, .slice (some ⟨g, 0, none⟩) (thL ⟨zi, zx, zy, zf, zt, zl, zh, zd⟩ ks).length sc] (0, 0) _ rfl z1 Try.underlying112 rfl info_di9) rfl ?_
        have hne : g ≠ w.heap.size + 1 := by have := HSB.out; have h2 := HB0.out.size; have h3 := hgb; have h4 := (HA.out Z HB0.out).2.2.1; omega
        obtain ⟨C, hC⟩ := HCL.out
        exact ⟨z2, _, L, rfl, HLL.out.same (other9 _ _ _ _ _ _ _ _ _ _ _ _ hne), HOR.out, g, _, _, C, rfl, (other9 _ _ _ _ _ _ _ _ _ _ _ _ hne).trans hC⟩
end Go.Proofs.Ytpaihnjgpookjaa
