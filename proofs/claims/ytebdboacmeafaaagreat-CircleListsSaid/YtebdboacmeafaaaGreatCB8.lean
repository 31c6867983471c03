/- Package circle: span. -/
import Derived.Test.YtebdboacmeafaaaGreatCBA
import Derived.Maps.AppendAt
set_option linter.unusedVariables false
set_option linter.unusedSimpArgs false
namespace Go.Proofs.YtebdboacmeafaaaGreat
open Go Go.RowKit

theorem ifWanted {c : Prop} {d : Decidable c} {A B R : Prop} (hc : c) (h : A) : @ite Prop c d (A ∨ R) B := by rw [if_pos hc]; exact .inl h
theorem append_at_wp {P : Program} {o : Oper} {a : Act} {w : World} {K : Act → World → Prop} {Q : Exit → Act → World → Prop}
    (s x : Operand) (t : TypeId) (ho : o.op = .call { callee := .builtin .append, args := #[s, x], argTypes := #[t, t] })
    (base : Nat) (e : TypeId) (i : TypeInfo) (z : Value) (size bytes : Nat) (ht : P.underlying t = some (.slice e)) (hi : P.info? e = some i) (hz : i.zero = some z)
    (hsize : i.size = size) (hby : i.bytes = bytes) (hzs : z.cells.size = size) (hsz : 0 < size)
    (v : Value) (n : Nat) (xs : List Value) (hs : a.eval s = v) (hown : w.ownsRow base e size v n xs)
    (ad : Addr) (m c : Nat) (news : List Value) (hx : a.eval x = .slice (some ad) m c) (hl : news.length = m * size) (hnews : ∀ j u, news[j]? = some u → w.cell? (ad.add j) = some u) (h1 : ∀ u ∈ news, u.oneCell' = true)
    (h63 : n + m ≤ maxLen) (hbytes : (n + m) * bytes ≤ 140737488355328) (hbase : base ≤ w.heap.size)
    (h : ∀ v' w', w'.ownsRow base e size v' (n + m) (xs ++ news) → w.grownBy w' v.ownBlock → (v'.ownBlock = v.ownBlock ∨ v'.ownBlock = some w.heap.size) → K (a.put o.dst v') w') : Oper.wp P o a w K Q := by
  obtain ⟨v', w', hr, h2, h3, h4, h5⟩ := run_append_own_at (P := P) w base t o.type e i z size bytes ht hi hz hsize hby hzs hsz v n xs hown ad m c news hl hnews h1 h63 hbytes hbase
  unfold Oper.wp execOp
  simp only [ho, resolve, invoke, builtin, Sem.run_bind, Sem.run_pure, Result.andThen_ok, List.map_toArray, List.map_cons, List.map_nil, hs, hx, hr]
  exact h v' w' h2 h3 h5
/-- Two rows of numbers that a call made, apart from each other. -/
structure TR (Z w : World) (v1 : Value) (n1 : Nat) (x1 : List Value) (v2 : Value) (n2 : Nat) (x2 : List Value) : Prop where
  b : Below Z.heap.size Z w
  o1 : w.ownsRow Z.heap.size 3 1 v1 n1 x1
  o2 : w.ownsRow Z.heap.size 3 1 v2 n2 x2
  ne : ∀ g, v1.ownBlock = some g → v2.ownBlock ≠ some g
theorem TR.call {Z A B : World} {v1 v2 : Value} {n1 n2 : Nat} {x1 x2 : List Value} (h : TR Z A v1 n1 x1 v2 n2 x2) (hb : Below A.heap.size A B) : TR Z B v1 n1 x1 v2 n2 x2 :=
  ⟨h.b.trans (hb.mono h.b.size), ownBelow h.o1 hb, ownBelow h.o2 hb, h.ne⟩
theorem TR.swap {Z A : World} {v1 v2 : Value} {n1 n2 : Nat} {x1 x2 : List Value} (h : TR Z A v1 n1 x1 v2 n2 x2) : TR Z A v2 n2 x2 v1 n1 x1 := ⟨h.b, h.o2, h.o1, fun g h2 h1 => h.ne g h1 h2⟩
theorem TR.grow {Z A B : World} {v1 v2 v' : Value} {n1 n2 n' : Nat} {x1 x2 x' : List Value} (h : TR Z A v1 n1 x1 v2 n2 x2) (ho : B.ownsRow Z.heap.size 3 1 v' n' x') (hg : A.grownBy B v1.ownBlock) (hat : v'.ownBlock = v1.ownBlock ∨ v'.ownBlock = some A.heap.size) : TR Z B v' n' x' v2 n2 x2 := by
  refine ⟨h.b.grown hg h.b.size (fun j e => (World.ownsRow.lt h.o1 j e).1), ho, h.o2.kept hg ?_, fun g h1 h2 => ?_⟩
  · cases hv : v2.ownBlock with
    | none => exact .inl rfl
    | some g => exact .inr (fun e => h.ne g (by rw [← e]) hv)
  · rcases hat with e | e
    · exact h.ne g (e ▸ h1) h2
    · rw [e] at h1; cases h1
      have := (World.ownsRow.lt h.o2 _ h2).2
      omega
theorem TR.keep {Z A B : World} {v1 v2 : Value} {n1 n2 : Nat} {x1 x2 : List Value} {q : Nat} {C : Array Value} {t : TypeId} {f : Nat × Nat} (h : TR Z A v1 n1 x1 v2 n2 x2) (hg : A.grownBy B v1.ownBlock) (hq : A.heap[q]? = some (.cells C t f)) (hne : v1.ownBlock ≠ some q) : B.heap[q]? = some (.cells C t f) :=
  (hg.block q (Array.getElem?_eq_some_iff.1 hq).1 (fun e => hne e.symm)).trans hq
theorem info_in1 : (Tryz.prog.info? 3).map (fun i => (i.zero, i.size, i.bytes)) = some (some (.int .i64 0), 1, 8) := by kernel_rfl
/-- The worlds and frames in the head of span's region. -/
def SpInv (Z : World) (b0 vb n : Nat) (zi zx zy zf zt zl zh dr h0 h1 h2 h3 h4 h5 h6 h7 h8 t lo hi : Int) (h9 : Bool) (v v5 v6 u0 u3 u4 u7 u9 u10 u11 u12 u13 u14 u15 u16 u17 u18 u19 u20 u21 u22 u23 u24 u25 u26 u27 u28 u29 u30 u31 u32 u33 u34 u35 : Value) (x1 x2 : List Value) (listed : Array Bool) (a : Act) (w' : World) : Prop :=
  ∃ (l0 l1 l2 l3 l4 l5 l6 l7 l8 l9 l10 l11 l12 l13 : Bool) (A B : Nat) (V1 V2 : Value), listed = #[l0, l1, l2, l3, l4, l5, l6, l7, l8, l9, l10, l11, l12, l13, false, false] ∧ a = { tmps := #[u0, .int .i64 t, .pointer (some ⟨b0, 0, none⟩), u3, u4, v5, v6, u7, .pointer (some ⟨vb, 0, none⟩), u9, u10, u11, u12, u13, u14, u15, pkIf l0 (v5) (u16), pkIf l1 (.agg #[.int .i64 zi, .int .i64 zx, .int .i64 zy, .int .i64 zf, .int .i64 zt, .int .i64 zl, .int .i64 zh, .int .i64 dr, v]) (u17), pkIf l2 (.agg #[.int .i64 h0, .int .i64 h1, .int .i64 h2, .int .i64 h3, .int .i64 h4, .int .i64 h5, .int .i64 h6, .int .i64 h7, .int .i64 h8, .bool h9]) (u18), pkIf l3 (.int .i64 t) (u19), pkIf l4 (.int .i64 lo) (u20), pkIf l5 (.slice (some ⟨A, 0, none⟩) 1 1) (u21), pkIf l6 (V1) (u22), pkIf l7 (v6) (u23), pkIf l8 (.agg #[.int .i64 zi, .int .i64 zx, .int .i64 zy, .int .i64 zf, .int .i64 zt, .int .i64 zl, .int .i64 zh, .int .i64 dr, v]) (u24), pkIf l9 (.agg #[.int .i64 h0, .int .i64 h1, .int .i64 h2, .int .i64 h3, .int .i64 h4, .int .i64 h5, .int .i64 h6, .int .i64 h7, .int .i64 h8, .bool h9]) (u25), pkIf l10 (.int .i64 t) (u26), pkIf l11 (.int .i64 hi) (u27), pkIf l12 (.slice (some ⟨B, 0, none⟩) 1 1) (u28), pkIf l13 (V2) (u29), u30, u31, u32, u33, u34, u35], defers := [] } ∧
    TR Z w' (if l6 = true then V1 else v5) (if l6 = true then n + 1 else n) (if l6 = true then x1 ++ [.int .i64 lo] else x1) (if l13 = true then V2 else v6) (if l13 = true then n + 1 else n) (if l13 = true then x2 ++ [.int .i64 hi] else x2) ∧
    w'.heap[vb]? = some (.cells #[.int .i64 h0, .int .i64 h1, .int .i64 h2, .int .i64 h3, .int .i64 h4, .int .i64 h5, .int .i64 h6, .int .i64 h7, .int .i64 h8, .bool h9] 128 (0, 0)) ∧
    (l5 = true → l6 = false → w'.heap[A]? = some (.cells #[.int .i64 lo] 3 (0, 0)) ∧ (if l13 = true then V2 else v6).ownBlock ≠ some A) ∧
    (l12 = true → l13 = false → w'.heap[B]? = some (.cells #[.int .i64 hi] 3 (0, 0)) ∧ (if l6 = true then V1 else v5).ownBlock ≠ some B) ∧ (l6 = true → l5 = true) ∧ (l13 = true → l12 = true)
/-- The least and the greatest zero by a list of things. -/
def spLo (dr : Int) (l : List Th) (t : Int) : Int := maxL (-300) (l.map fun h => lowI dr h t)
def spHi (dr : Int) (l : List Th) (t : Int) : Int := minL 300 (l.map fun h => highI dr h t)
theorem own_ints {w : World} {base : Nat} {v : Value} {l : List Int} (h : w.ownsRow base 3 1 v l.length (l.map (.int .i64))) : INRow w v l := by
  rcases h.2 with ⟨rfl, h0⟩ | ⟨g, cap, cur, rfl, hb, hg, hn, hm, hs, ht⟩
  · exact .inl ⟨_, _, rfl, List.eq_nil_of_length_eq_zero h0⟩
  · refine .inr ⟨g, 0, cap, rfl, (Array.getElem?_eq_some_iff.1 hg).1, fun i hi => ?_⟩
    rw [Nat.zero_add, cellH hg, ← Array.getElem?_toList]
    have : cur.toList[i]? = (l.map (Value.int .i64))[i]? := by rw [← ht, List.getElem?_take_of_lt (by omega)]
    rw [this, List.getElem?_map, List.getElem?_eq_getElem hi, List.getD_eq_getElem?_getD, List.getElem?_eq_getElem hi]; rfl
set_option maxRecDepth 100000 in
set_option maxHeartbeats 8000000 in
theorem span_any (z : Ci) (v : Value) (l : List Th) (t : Int) (w : World) (hv : ThRow w v l) (hl : l.length ≤ 100) (hd : 0 ≤ z.dr ∧ z.dr ≤ 60) (ht : 0 ≤ t ∧ t ≤ 1048576) (hok : ∀ h ∈ l, (0 ≤ h.t ∧ h.t ≤ 1048576) ∧ (-300 ≤ h.lo ∧ h.lo ≤ 300) ∧ -300 ≤ h.hi ∧ h.hi ≤ 300) :
    Calls Tryz.prog 70 #[dlV z v, .int .i64 t] w fun e w' => e = .returned (.agg #[.int .i64 (spLo z.dr l t), .int .i64 (spHi z.dr l t)]) ∧ Below w.heap.size w w' := by
  have HV := Lib.hid hv
  obtain ⟨va, vc, rfl, hc⟩ := hv.form
  have HC := Lib.hid hc
  have HL1 := Lib.hid (fun h w' (hh : (0 ≤ h.t ∧ h.t ≤ 1048576) ∧ (-300 ≤ h.lo ∧ h.lo ≤ 300) ∧ -300 ≤ h.hi ∧ h.hi ≤ 300) => dlow_any z (.slice va l.length vc) h t w' hd hh.1 ht hh.2.1)
  have HH1 := Lib.hid (fun h w' (hh : (0 ≤ h.t ∧ h.t ≤ 1048576) ∧ (-300 ≤ h.lo ∧ h.lo ≤ 300) ∧ -300 ≤ h.hi ∧ h.hi ≤ 300) => dhigh_any z (.slice va l.length vc) h t w' hd hh.1 ht hh.2.2)
  have HOKL := Lib.hid hok
  have HLL := Lib.hid hl
  clear hv hc hd ht hok
  obtain ⟨zi, zx, zy, zf, zt, zl, zh, dr⟩ := z
  have HSL : Hid (spLo dr l t = maxL (-300) (l.map fun h => lowI dr h t)) := Lib.hid rfl
  have HSH : Hid (spHi dr l t = minL 300 (l.map fun h => highI dr h t)) := Lib.hid rfl
  simp only at HL1 HH1 ⊢
  obtain ⟨SL, hSL⟩ : ∃ x, spLo dr l t = x := ⟨_, rfl⟩
  obtain ⟨SH, hSH⟩ : ∃ x, spHi dr l t = x := ⟨_, rfl⟩
  rw [hSL] at HSL ⊢
  rw [hSH] at HSH ⊢
  have HA := Lib.hid (fun W' => two_cells w #[.int .i64 zi, .int .i64 zx, .int .i64 zy, .int .i64 zf, .int .i64 zt, .int .i64 zl, .int .i64 zh, .int .i64 dr, .slice va l.length vc] #[.int .i64 0, .int .i64 0] 119 36 (W := W'))
  have HB0 := Lib.hid (Below.refl ((w.alloc (.cells #[.int .i64 zi, .int .i64 zx, .int .i64 zy, .int .i64 zf, .int .i64 zt, .int .i64 zl, .int .i64 zh, .int .i64 dr, .slice va l.length vc] 119)).alloc (.cells #[.int .i64 0, .int .i64 0] 36)).heap.size ((w.alloc (.cells #[.int .i64 zi, .int .i64 zx, .int .i64 zy, .int .i64 zf, .int .i64 zt, .int .i64 zl, .int .i64 zh, .int .i64 dr, .slice va l.length vc] 119)).alloc (.cells #[.int .i64 0, .int .i64 0] 36)))
  obtain ⟨Z, hZ⟩ : ∃ Z, (w.alloc (.cells #[.int .i64 zi, .int .i64 zx, .int .i64 zy, .int .i64 zf, .int .i64 zt, .int .i64 zl, .int .i64 zh, .int .i64 dr, .slice va l.length vc] 119)).alloc (.cells #[.int .i64 0, .int .i64 0] 36) = Z := ⟨_, rfl⟩
  rw [hZ] at HA HB0
  have HZ := Lib.hid hZ
  have HRD : Hid (∀ W', Below Z.heap.size Z W' → (W'.cell? ⟨w.heap.size, 0, none⟩ = some (.int .i64 zi) ∧ W'.cell? ⟨w.heap.size, 1, none⟩ = some (.int .i64 zx) ∧ W'.cell? ⟨w.heap.size, 2, none⟩ = some (.int .i64 zy) ∧ W'.cell? ⟨w.heap.size, 3, none⟩ = some (.int .i64 zf) ∧ W'.cell? ⟨w.heap.size, 4, none⟩ = some (.int .i64 zt) ∧ W'.cell? ⟨w.heap.size, 5, none⟩ = some (.int .i64 zl) ∧ W'.cell? ⟨w.heap.size, 6, none⟩ = some (.int .i64 zh) ∧ W'.cell? ⟨w.heap.size, 7, none⟩ = some (.int .i64 dr) ∧ W'.cell? ⟨w.heap.size, 8, none⟩ = some (.slice va l.length vc)) ∧ W'.heap[w.heap.size + 1]? = some (.cells #[.int .i64 0, .int .i64 0] 36 (0, 0)) ∧ Below w.heap.size w W') := Lib.hid (fun W' h => by
    obtain ⟨x1, x2, _, x3⟩ := HA.out W' h
    exact ⟨⟨cellH x1 0, cellH x1 1, cellH x1 2, cellH x1 3, cellH x1 4, cellH x1 5, cellH x1 6, cellH x1 7, cellH x1 8⟩, x2, x3⟩)
  clear hZ hSL hSH
  obtain ⟨i0, hi0, hz0, hz1, hz2⟩ := info_parts info_in1
  go_enter Tryz.func70, Tryz.ntmps70
  go_wp2_with fail
  rw [HZ.out]
  go_loopw [5, 6, 12] (fun x y i wr => ∃ (k : Nat) (v5 v6 : Value), k ≤ l.length ∧ x = v5 ∧ y = v6 ∧ i = .int .i64 k ∧ Hid (TR Z wr v5 k (((l.take k).map fun h => lowI dr h t).map (.int .i64)) v6 k (((l.take k).map fun h => highI dr h t).map (.int .i64)))) (fun _ _ i _ => l.length - (intOf i).toNat)
  case atStart => exact ⟨0, _, _, Nat.zero_le _, rfl, rfl, rfl, Lib.hid ⟨HB0.out, ⟨rfl, .inl ⟨rfl, rfl⟩⟩, ⟨rfl, .inl ⟨rfl, rfl⟩⟩, fun g h => by simp [Value.ownBlock] at h⟩⟩
  case round =>
    obtain ⟨k, v5, v6, hk, hx5, hx6, rfl, hT⟩ := hrel
    have hx5 := hx5.symm
    have hx6 := hx6.symm
    subst hx5
    subst hx6
    by_cases hkl : k < l.length
    · obtain ⟨b, off, rfl, hb, hat⟩ := HC.out k hkl
      obtain ⟨_, _, zb⟩ := HRD.out wr hT.out.b
      obtain ⟨e0, e1, e2, e3, e4, e5, e6, e7, e8, e9⟩ := hat.keep zb hb
      have hki : (k : Int) < l.length := by omega
      have hk0 : (0 : Int) ≤ k := by omega
      have HKL := Lib.hid hkl
      have hln := HLL.out
      have HMM := HOKL.out (l.getD k .nil) (by rw [List.getD_eq_getElem?_getD, List.getElem?_eq_getElem hkl]; exact List.getElem_mem _)
      have HLO := Lib.hid (fun w' => HL1.out (l.getD k .nil) w' HMM)
      have HHI := Lib.hid (fun w' => HH1.out (l.getD k .nil) w' HMM)
      have HN1 : Hid (((l.take (k + 1)).map fun h => lowI dr h t).map (Value.int .i64) = ((l.take k).map fun h => lowI dr h t).map (Value.int .i64) ++ [.int .i64 (lowI dr (l.getD k .nil) t)]) := Lib.hid (by
        rw [List.take_succ_eq_append_getElem hkl, List.map_append, List.map_append, List.getD_eq_getElem?_getD, List.getElem?_eq_getElem hkl]; rfl)
      have HN2 : Hid (((l.take (k + 1)).map fun h => highI dr h t).map (Value.int .i64) = ((l.take k).map fun h => highI dr h t).map (Value.int .i64) ++ [.int .i64 (highI dr (l.getD k .nil) t)]) := Lib.hid (by
        rw [List.take_succ_eq_append_getElem hkl, List.map_append, List.map_append, List.getD_eq_getElem?_getD, List.getElem?_eq_getElem hkl]; rfl)
      obtain ⟨X, hX⟩ : ∃ X, l.getD k .nil = X := ⟨_, rfl⟩
      rw [hX] at e0 e1 e2 e3 e4 e5 e6 e7 e8 e9 HLO HHI HN1 HN2
      obtain ⟨lo, hlo⟩ : ∃ x, lowI dr X t = x := ⟨_, rfl⟩
      obtain ⟨hi, hhi⟩ : ∃ x, highI dr X t = x := ⟨_, rfl⟩
      rw [hlo] at HLO HN1
      rw [hhi] at HHI HN2
      obtain ⟨x1, hx1⟩ : ∃ x, ((l.take k).map fun h => lowI dr h t).map (Value.int .i64) = x := ⟨_, rfl⟩
      obtain ⟨x2, hx2⟩ : ∃ x, ((l.take k).map fun h => highI dr h t).map (Value.int .i64) = x := ⟨_, rfl⟩
      rw [hx1, hx2] at hT
      rw [hx1] at HN1
      rw [hx2] at HN2
      clear hX hlo hhi HMM hat hb zb hx1 hx2
      obtain ⟨h0, h1, h2, h3, h4, h5, h6, h7, h8, h9⟩ := X
      simp only at e0 e1 e2 e3 e4 e5 e6 e7 e8 e9
      have HT1 := Lib.hid (hT.out.call ((Below.refl _ wr).alloc (Nat.le_refl _) (.cells #[.int .i64 h0, .int .i64 h1, .int .i64 h2, .int .i64 h3, .int .i64 h4, .int .i64 h5, .int .i64 h6, .int .i64 h7, .int .i64 h8, .bool h9] 128)))
      have HQ1 : Hid ((wr.alloc (.cells #[.int .i64 h0, .int .i64 h1, .int .i64 h2, .int .i64 h3, .int .i64 h4, .int .i64 h5, .int .i64 h6, .int .i64 h7, .int .i64 h8, .bool h9] 128)).heap[wr.heap.size]? = some (.cells #[.int .i64 h0, .int .i64 h1, .int .i64 h2, .int .i64 h3, .int .i64 h4, .int .i64 h5, .int .i64 h6, .int .i64 h7, .int .i64 h8, .bool h9] 128 (0, 0))) := Lib.hid (heap_alloc_new _ _)
      obtain ⟨vb, hvb⟩ : ∃ x, wr.heap.size = x := ⟨_, rfl⟩
      rw [hvb] at HQ1
      obtain ⟨wx, hwx⟩ : ∃ X, wr.alloc (.cells #[.int .i64 h0, .int .i64 h1, .int .i64 h2, .int .i64 h3, .int .i64 h4, .int .i64 h5, .int .i64 h6, .int .i64 h7, .int .i64 h8, .bool h9] 128) = X := ⟨_, rfl⟩
      rw [hwx] at HT1 HQ1
      have HWX := Lib.hid hwx
      clear hwx hT
      go_wp2_with fail
      rw [HWX.out]
      clear e0 e1 e2 e3 e4 e5 e6 e7 e8 e9 hvb
      refine wp_region_invtail 14 (by kernel_rfl) (by kernel_rfl) (by kernel_rfl) (by kernel_rfl) (of_decide_eq_true (by kernel_rfl)) (by kernel_rfl) (SpInv Z w.heap.size vb k zi zx zy zf zt zl zh dr h0 h1 h2 h3 h4 h5 h6 h7 h8 t lo hi h9 (.slice (some ⟨b, off, none⟩) l.length vc) _ _ _ _ _ _ _ _ _ _ _ _ _ _ _ _ _ _ _ _ _ _ _ _ _ _ _ _ _ _ _ _ _ x1 x2)
        ⟨false, false, false, false, false, false, false, false, false, false, false, false, false, false, 0, 0, undef, undef, rfl, rfl, HT1.out.call ((Below.refl _ _).drew), HQ1.out, by simp, by simp, by simp, by simp⟩ ?hend ?hstep
      case hend =>
        rintro listed a w' ⟨l0, l1, l2, l3, l4, l5, l6, l7, l8, l9, l10, l11, l12, l13, A, B, V1, V2, rfl, rfl, hT, hV, hA, hB, k1, k2⟩ hall
        have hal : l0 = true ∧ l1 = true ∧ l2 = true ∧ l3 = true ∧ l4 = true ∧ l5 = true ∧ l6 = true ∧ l7 = true ∧ l8 = true ∧ l9 = true ∧ l10 = true ∧ l11 = true ∧ l12 = true ∧ l13 = true := ⟨by simpa using hall 0 (by decide), by simpa using hall 1 (by decide), by simpa using hall 2 (by decide), by simpa using hall 3 (by decide), by simpa using hall 4 (by decide), by simpa using hall 5 (by decide), by simpa using hall 6 (by decide), by simpa using hall 7 (by decide), by simpa using hall 8 (by decide), by simpa using hall 9 (by decide), by simpa using hall 10 (by decide), by simpa using hall 11 (by decide), by simpa using hall 12 (by decide), by simpa using hall 13 (by decide)⟩
        obtain ⟨rfl, rfl, rfl, rfl, rfl, rfl, rfl, rfl, rfl, rfl, rfl, rfl, rfl, rfl⟩ := hal
        simp only [if_true] at hT
        have HTE := Lib.hid hT
        simp only [pkIf_true, List.drop_succ_cons, List.drop_zero]
        clear hall hT hV hA hB k1 k2
        go_wp2_with fail
        go_roundw
        case rel => exact ⟨k + 1, V1, V2, HKL.out, rfl, rfl, by go_num, Lib.hid (by rw [HN1.out, HN2.out]; exact HTE.out)⟩
        case measure => have := HKL.out; simp [intOf]; omega
      case hstep =>
        rintro listed a w' i ⟨l0, l1, l2, l3, l4, l5, l6, l7, l8, l9, l10, l11, l12, l13, A, B, V1, V2, rfl, rfl, hT, hV, hA, hB, k1, k2⟩ hi hin
        obtain ⟨hf, o', ho', hp⟩ := mem_ready.1 hi
        clear hi
        obtain ⟨⟨q0, q1, q2, q3, q4, q5, q6, q7, q8⟩, _, _⟩ := HRD.out w' hT.b
        have s0 := cellH hV 0
        have s1 := cellH hV 1
        have s2 := cellH hV 2
        have s3 := cellH hV 3
        have s4 := cellH hV 4
        have s5 := cellH hV 5
        have s6 := cellH hV 6
        have s7 := cellH hV 7
        have s8 := cellH hV 8
        have s9 := cellH hV 9
        simp only [List.getElem?_toArray, List.getElem?_cons_zero, List.getElem?_cons_succ] at s0 s1 s2 s3 s4 s5 s6 s7 s8 s9
        match i, hin with
          | 0, _ =>
            obtain rfl : l0 = false := by simpa using hf
            clear hp ho'
            unfold wpOp
            simp only [pkIf_true]
            go_simp
            exact .inl ⟨true, l1, l2, l3, l4, l5, l6, l7, l8, l9, l10, l11, l12, l13, A, B, V1, V2, rfl, rfl, hT, hV, hA, hB, k1, k2⟩
          | 1, _ =>
            obtain rfl : l1 = false := by simpa using hf
            clear hp ho'
            unfold wpOp
            simp only [pkIf_true]
            go_simp
            exact .inl ⟨l0, true, l2, l3, l4, l5, l6, l7, l8, l9, l10, l11, l12, l13, A, B, V1, V2, rfl, rfl, hT, hV, hA, hB, k1, k2⟩
          | 2, _ =>
            obtain rfl : l2 = false := by simpa using hf
            clear hp ho'
            unfold wpOp
            simp only [pkIf_true]
            go_simp
            exact .inl ⟨l0, l1, true, l3, l4, l5, l6, l7, l8, l9, l10, l11, l12, l13, A, B, V1, V2, rfl, rfl, hT, hV, hA, hB, k1, k2⟩
          | 3, _ =>
            obtain rfl : l3 = false := by simpa using hf
            clear hp ho'
            unfold wpOp
            simp only [pkIf_true]
            go_simp
            exact .inl ⟨l0, l1, l2, true, l4, l5, l6, l7, l8, l9, l10, l11, l12, l13, A, B, V1, V2, rfl, rfl, hT, hV, hA, hB, k1, k2⟩
          | 4, _ =>
            obtain rfl : l4 = false := by simpa using hf
            cases ho'
            obtain rfl : l1 = true := by simpa using hp ⟨1, .data⟩ (by simp) rfl
            obtain rfl : l2 = true := by simpa using hp ⟨2, .data⟩ (by simp) rfl
            obtain rfl : l3 = true := by simpa using hp ⟨3, .data⟩ (by simp) rfl
            clear hp
            unfold wpOp
            simp only [pkIf_true]
            go_simp
            refine .inl ((HLO.out w').mono ?_)
            rintro e w9 ⟨rfl, hb9⟩
            exact ⟨l0, true, true, true, true, l5, l6, l7, l8, l9, l10, l11, l12, l13, A, B, V1, V2, rfl, rfl, hT.call hb9, (hb9.block _ (Array.getElem?_eq_some_iff.1 hV).1).trans hV, fun q1 q2 => ⟨(hb9.block _ (Array.getElem?_eq_some_iff.1 (hA q1 q2).1).1).trans (hA q1 q2).1, (hA q1 q2).2⟩, fun q1 q2 => ⟨(hb9.block _ (Array.getElem?_eq_some_iff.1 (hB q1 q2).1).1).trans (hB q1 q2).1, (hB q1 q2).2⟩, k1, k2⟩
          | 5, _ =>
            obtain rfl : l5 = false := by simpa using hf
            obtain rfl : l6 = false := by
              cases l6 with
              | false => rfl
              | true => exact absurd (k1 rfl) (by decide)
            cases ho'
            obtain rfl : l4 = true := by simpa using hp ⟨4, .data⟩ (by simp) rfl
            clear hp
            unfold wpOp
            simp only [pkIf_true]
            go_simp
            exact .inl ⟨l0, l1, l2, l3, true, true, false, l7, l8, l9, l10, l11, l12, l13, w'.heap.size, B, V1, V2, rfl, rfl, hT.call ((Below.refl _ w').alloc (Nat.le_refl _) _), (gNe _ _ _ (Nat.ne_of_lt (Array.getElem?_eq_some_iff.1 hV).1)).trans hV, fun _ _ => ⟨heap_alloc_new _ _, fun e => Nat.lt_irrefl _ (World.ownsRow.lt hT.o2 _ e).2⟩, fun q1 q2 => ⟨(gNe _ _ _ (Nat.ne_of_lt (Array.getElem?_eq_some_iff.1 (hB q1 q2).1).1)).trans (hB q1 q2).1, (hB q1 q2).2⟩, fun h => (by cases h), k2⟩
          | 6, _ =>
            obtain rfl : l6 = false := by simpa using hf
            cases ho'
            obtain rfl : l0 = true := by simpa using hp ⟨0, .data⟩ (by simp) rfl
            obtain rfl : l5 = true := by simpa using hp ⟨5, .data⟩ (by simp) rfl
            clear hp
            obtain ⟨f1, f2⟩ := hA rfl rfl
            simp only [Bool.false_eq_true, if_false] at hT hB
            unfold wpOp
            simp only [pkIf_true, List.getElem?_toArray, List.getElem?_cons_succ, List.getElem?_cons_zero]
            refine ifWanted rfl (append_at_wp _ _ 26 rfl Z.heap.size 3 i0 (.int .i64 0) 1 8 Tryz.underlying26 hi0 hz0 hz1 hz2 rfl (by decide) v5 k x1 rfl hT.o1 ⟨A, 0, none⟩ 1 1 [.int .i64 lo] rfl rfl (fun j u hu => cell_add f1 j u hu) (by simp [Value.oneCell']) (by unfold maxLen; omega) (by omega) hT.b.size ?_)
            intro v' w9 hown hgr hat
            refine ⟨true, l1, l2, l3, l4, true, true, l7, l8, l9, l10, l11, l12, l13, A, B, v', V2, rfl, rfl, by simpa using hT.grow hown hgr hat, hT.keep hgr hV (own_neC hT.o1 hV (by decide)), fun _ h => (by cases h), fun q1 q2 => ⟨hT.keep hgr (hB q1 q2).1 (hB q1 q2).2, ?_⟩, fun _ => rfl, k2⟩
            rcases hat with e | e
            · simp only [if_true]; rw [e]; exact (hB q1 q2).2
            · simp only [if_true]; rw [e]; intro q; cases q; have := (Array.getElem?_eq_some_iff.1 (hB q1 q2).1).1; omega
          | 7, _ =>
            obtain rfl : l7 = false := by simpa using hf
            clear hp ho'
            unfold wpOp
            simp only [pkIf_true]
            go_simp
            exact .inl ⟨l0, l1, l2, l3, l4, l5, l6, true, l8, l9, l10, l11, l12, l13, A, B, V1, V2, rfl, rfl, hT, hV, hA, hB, k1, k2⟩
          | 8, _ =>
            obtain rfl : l8 = false := by simpa using hf
            clear hp ho'
            unfold wpOp
            simp only [pkIf_true]
            go_simp
            exact .inl ⟨l0, l1, l2, l3, l4, l5, l6, l7, true, l9, l10, l11, l12, l13, A, B, V1, V2, rfl, rfl, hT, hV, hA, hB, k1, k2⟩
          | 9, _ =>
            obtain rfl : l9 = false := by simpa using hf
            clear hp ho'
            unfold wpOp
            simp only [pkIf_true]
            go_simp
            exact .inl ⟨l0, l1, l2, l3, l4, l5, l6, l7, l8, true, l10, l11, l12, l13, A, B, V1, V2, rfl, rfl, hT, hV, hA, hB, k1, k2⟩
          | 10, _ =>
            obtain rfl : l10 = false := by simpa using hf
            clear hp ho'
            unfold wpOp
            simp only [pkIf_true]
            go_simp
            exact .inl ⟨l0, l1, l2, l3, l4, l5, l6, l7, l8, l9, true, l11, l12, l13, A, B, V1, V2, rfl, rfl, hT, hV, hA, hB, k1, k2⟩
          | 11, _ =>
            obtain rfl : l11 = false := by simpa using hf
            cases ho'
            obtain rfl : l8 = true := by simpa using hp ⟨8, .data⟩ (by simp) rfl
            obtain rfl : l9 = true := by simpa using hp ⟨9, .data⟩ (by simp) rfl
            obtain rfl : l10 = true := by simpa using hp ⟨10, .data⟩ (by simp) rfl
            clear hp
            unfold wpOp
            simp only [pkIf_true]
            go_simp
            refine .inl ((HHI.out w').mono ?_)
            rintro e w9 ⟨rfl, hb9⟩
            exact ⟨l0, l1, l2, l3, l4, l5, l6, l7, true, true, true, true, l12, l13, A, B, V1, V2, rfl, rfl, hT.call hb9, (hb9.block _ (Array.getElem?_eq_some_iff.1 hV).1).trans hV, fun q1 q2 => ⟨(hb9.block _ (Array.getElem?_eq_some_iff.1 (hA q1 q2).1).1).trans (hA q1 q2).1, (hA q1 q2).2⟩, fun q1 q2 => ⟨(hb9.block _ (Array.getElem?_eq_some_iff.1 (hB q1 q2).1).1).trans (hB q1 q2).1, (hB q1 q2).2⟩, k1, k2⟩
          | 12, _ =>
            obtain rfl : l12 = false := by simpa using hf
            obtain rfl : l13 = false := by
              cases l13 with
              | false => rfl
              | true => exact absurd (k2 rfl) (by decide)
            cases ho'
            obtain rfl : l11 = true := by simpa using hp ⟨11, .data⟩ (by simp) rfl
            clear hp
            unfold wpOp
            simp only [pkIf_true]
            go_simp
            exact .inl ⟨l0, l1, l2, l3, l4, l5, l6, l7, l8, l9, l10, true, true, false, A, w'.heap.size, V1, V2, rfl, rfl, hT.call ((Below.refl _ w').alloc (Nat.le_refl _) _), (gNe _ _ _ (Nat.ne_of_lt (Array.getElem?_eq_some_iff.1 hV).1)).trans hV, fun q1 q2 => ⟨(gNe _ _ _ (Nat.ne_of_lt (Array.getElem?_eq_some_iff.1 (hA q1 q2).1).1)).trans (hA q1 q2).1, (hA q1 q2).2⟩, fun _ _ => ⟨heap_alloc_new _ _, fun e => Nat.lt_irrefl _ (World.ownsRow.lt hT.o1 _ e).2⟩, k1, fun h => (by cases h)⟩
          | 13, _ =>
            obtain rfl : l13 = false := by simpa using hf
            cases ho'
            obtain rfl : l7 = true := by simpa using hp ⟨7, .data⟩ (by simp) rfl
            obtain rfl : l12 = true := by simpa using hp ⟨12, .data⟩ (by simp) rfl
            clear hp
            obtain ⟨f1, f2⟩ := hB rfl rfl
            simp only [Bool.false_eq_true, if_false] at hT hA
            unfold wpOp
            simp only [pkIf_true, List.getElem?_toArray, List.getElem?_cons_succ, List.getElem?_cons_zero]
            refine ifWanted rfl (append_at_wp _ _ 26 rfl Z.heap.size 3 i0 (.int .i64 0) 1 8 Tryz.underlying26 hi0 hz0 hz1 hz2 rfl (by decide) v6 k x2 rfl hT.o2 ⟨B, 0, none⟩ 1 1 [.int .i64 hi] rfl rfl (fun j u hu => cell_add f1 j u hu) (by simp [Value.oneCell']) (by unfold maxLen; omega) (by omega) hT.b.size ?_)
            intro v' w9 hown hgr hat
            refine ⟨l0, l1, l2, l3, l4, l5, l6, true, l8, l9, l10, l11, true, true, A, B, V1, v', rfl, rfl, by simpa using (hT.swap.grow hown hgr hat).swap, hT.swap.keep hgr hV (own_neC hT.o2 hV (by decide)), fun q1 q2 => ⟨hT.swap.keep hgr (hA q1 q2).1 (hA q1 q2).2, ?_⟩, fun _ h => (by cases h), k1, fun _ => rfl⟩
            rcases hat with e | e
            · simp only [if_true]; rw [e]; exact (hA q1 q2).2
            · simp only [if_true]; rw [e]; intro q; cases q; have := (Array.getElem?_eq_some_iff.1 (hA q1 q2).1).1; omega
    · obtain rfl : k = l.length := by omega
      rw [List.take_length] at hT
      have o1 := own_ints (l := l.map fun h => lowI dr h t) (by rw [List.length_map]; exact hT.out.o1)
      have o2 := own_ints (l := l.map fun h => highI dr h t) (by rw [List.length_map]; exact hT.out.o2)
      have HG := Lib.hid (greatest_any (-300) v5 _ wr o1 (by rw [List.length_map]; have := HLL.out; omega))
      have HM := Lib.hid (least_any 300 v6 _ wr o2 (by rw [List.length_map]; have := HLL.out; omega))
      rw [← HSL.out] at HG
      rw [← HSH.out] at HM
      obtain ⟨_, z0, zb⟩ := HRD.out wr hT.out.b
      have HZ0 := Lib.hid z0
      have HZB := Lib.hid zb
      have r0 := cellH z0 0
      have r1 := cellH z0 1
      have rf := freeH z0
      simp only [List.getElem?_toArray, List.getElem?_cons_zero, List.getElem?_cons_succ] at r0 r1
      clear hT o1 o2 z0 zb
      go_wp2_with fail
      refine HG.out.mono ?_
      rintro e w1 ⟨rfl, rfl⟩
      go_wp2_with fail
      refine HM.out.mono ?_
      rintro e w1 ⟨rfl, rfl⟩
      go_wp2_with fail
      obtain ⟨z1, z2⟩ := set2 HZ0.out HZB.out (by omega) (.int .i64 SL) (.int .i64 SH)
      refine bodyPost_ret (results_cell_row Tryz.results70 _ _ (w.heap.size + 1) 36 #[.int .i64 SL, .int .i64 SH] (0, 0) _ rfl z1 Tryz.underlying36 rfl info_sp2) rfl ?_
      exact ⟨rfl, z2⟩
end Go.Proofs.YtebdboacmeafaaaGreat
