/- Package firetowerref05: Clashes. -/
import Derived.Test.YtpaihnjgpookjaaGreatCF7
set_option linter.unusedVariables false
set_option linter.unusedSimpArgs false
namespace Go.Proofs.YtpaihnjgpookjaaGreat
open Go Go.RowKit

theorem info_pr2 : (Tryz.prog.info? 33).map (·.size) = some 2 := by kernel_rfl
theorem ci_self {cs : List Ci} {ks : List Ck} (h : CcOk cs ks) {k : Nat} (hk : k < cs.length) : ciF cs (cs.getD k .nil).id = some (cs.getD k .nil) := by
  refine ciF_hit hk (fun j hj => ?_) (by simp)
  cases he : ((cs.getD j .nil).id == (cs.getD k .nil).id)
  · rfl
  · have h1 := (h.ci k hk).2
    have h2 := ciF_take_some (l := cs) (id := (cs.getD k .nil).id) (n := k) (j := j) (by omega) hj he
    rw [h1] at h2; cases h2
/-- What clashing answers of a circle is what the dial's list holds. -/
theorem clN_eq {cs : List Ci} {ks : List Ck} (h : CcOk cs ks) {k : Nat} (hk : k < cs.length) : gAll (cs.getD k .nil).dr (thL (cs.getD k .nil) ks) (thL (cs.getD k .nil) ks).length = clN cs ks (cs.getD k .nil) := by
  rw [gAll_eq h]
  unfold clN
  rw [ci_self h hk]
  rfl
theorem pair_append2 {o : Oper} {a : Act} {w : World} {K : Act → World → Prop} {Q : Exit → Act → World → Prop} (s x : Operand)
    (hop : o.op = Op.call { callee := Callee.builtin Builtin.append, args := #[s, x], argTypes := #[28, 28] }) (base : Nat) (v : Value) (n : Nat) (olds : List Value) (hs : a.eval s = v) (hown : w.ownsRow base 75 2 v n olds)
    (tv : Value) (l : List Pi2) (hx : a.eval x = tv) (ht : P2Row w tv l) (hT : l.length ≤ 4000) (hn : n ≤ 100000) (hb : base ≤ w.heap.size)
    (hK : ∀ v' w', w'.ownsRow base 75 2 v' (n + l.length) (olds ++ l.flatMap enc2) → w.grownBy w' v.ownBlock → (v'.ownBlock = v.ownBlock ∨ v'.ownBlock = some w.heap.size) → K (a.put o.dst v') w') : Oper.wp Tryz.prog o a w K Q := by
  obtain ⟨i0, hi, hz0, hz1, hz2⟩ := info_parts info_p2
  have main : ∀ (ad : Addr) (c : Nat), tv = .slice (some ad) l.length c → (∀ j u, (l.flatMap enc2)[j]? = some u → w.cell? (ad.add j) = some u) → Oper.wp Tryz.prog o a w K Q := fun ad c h1 h2 =>
    append_at_wp s x 28 hop base 75 i0 (.agg #[.int .i64 0, .int .i64 0]) 2 16 Tryz.underlying28 hi hz0 hz1 hz2 rfl (by decide) v n olds hs hown ad l.length c (l.flatMap enc2) (hx.trans h1) (flat2_len l) h2 (flat2_one l) (by unfold maxLen; omega) (by omega) hb hK
  rcases ht with ⟨a0, cap, rfl, rfl⟩ | ⟨b, off, cap, rfl, hb', hc⟩
  · cases a0 with
    | some ad => exact main ad cap rfl (fun j u h => by simp at h)
    | none =>
      have hrun : (Builtin.append_ #[28, 28] o.type #[v, .slice none 0 cap]).run Tryz.prog w = .ok v w := by
        rcases hown.2 with ⟨rfl, rfl⟩ | ⟨g, c', cur, rfl, _, _, hnc, _⟩
        · simp [Builtin.append_, run_underlying Tryz.underlying28, sizeOf, typeInfo, hi, Builtin.lenOf, Builtin.firstCells]
        · simp [Builtin.append_, run_underlying Tryz.underlying28, sizeOf, typeInfo, hi, Builtin.lenOf, Builtin.firstCells, hnc, storeCells]
      unfold Oper.wp
      simp [execOp, hop, resolve, invoke, builtin, hs, hx, hrun, Result.andThen]
      exact hK v w (by simpa using hown) (grown_reflP _ _) (.inl rfl)
  · refine main ⟨b, off, none⟩ cap rfl fun j u h => ?_
    rw [show (⟨b, off, none⟩ : Addr).add j = ⟨b, off + j, none⟩ by unfold Addr.add; split <;> simp_all]
    have hj : j < l.length * 2 := by have := (List.getElem?_eq_some_iff.1 h).1; rwa [flat2_len] at this
    obtain ⟨g1, g2⟩ := flat2_get l (j / 2) (by omega)
    obtain ⟨c1, c2⟩ := hc (j / 2) (by omega)
    rcases (by omega : j % 2 = 0 ∨ j % 2 = 1) with e | e
    · rw [show j / 2 * 2 = j by omega] at g1 c1
      rw [h] at g1; cases g1; exact c1
    · rw [show j / 2 * 2 + 1 = j by omega] at g2
      rw [show off + j / 2 * 2 + 1 = off + j by omega] at c2
      rw [h] at g2; cases g2; exact c2
theorem tPR : (33 : TypeId) ≠ 75 := by decide
/-- What the reference's Clashes answers. -/
def RcOut (cs : List Ci) (ks : List Ck) (w : World) (e : Ending) (w' : World) : Prop :=
  Below w.heap.size w w' ∧ (ccE cs ks ≠ 0 → e = .returned (.agg #[.slice none 0 0, .int .i64 (ccE cs ks)])) ∧ (ccE cs ks = 0 → ∃ v, e = .returned (.agg #[v, .int .i64 0]) ∧ P2Row w' v (clK cs ks cs.length))
/-- The worlds and frames in the region of Clashes. -/
def RkInv (Z : World) (hs k : Nat) (n1 c1 n2 c2 : Nat) (a1 a2 : Option Addr) (b off : Nat) (z0 z1 z2 z3 z4 z5 z6 z7 : Int) (v5 : Value) (n : Nat) (xs : List Value) (GL : List Pi2) (u0 u2 u3 u6 u7 u8 u9 u10 u11 u12 u13 u14 u15 u16 u17 u18 u19 u20 u21 u22 u23 u24 u25 u26 u27 u28 u29 : Value) (listed : Array Bool) (a : Act) (w' : World) : Prop :=
  ∃ (l0 l1 l2 l3 l4 l5 l6 l7 l8 : Bool) (TV V : Value), listed = #[l0, l1, l2, l3, l4, l5, l6, l7, l8, false] ∧ a = { tmps := #[u0, .pointer (some ⟨hs, 0, none⟩), u2, u3, v5, .int .i64 (k : Nat), u6, u7, u8, u9, u10, u11, u12, u13, u14, u15, u16, u17, u18, pkIf l0 (v5) (u19), pkIf l1 (.agg #[.slice a1 n1 c1, .slice a2 n2 c2]) (u20), pkIf l2 (.pointer (some ⟨hs, 0, none⟩)) (u21), pkIf l3 (.slice a1 n1 c1) (u22), pkIf l4 (.int .i64 (k : Nat)) (u23), pkIf l5 (.pointer (some ⟨b, off + k * 8, none⟩)) (u24), pkIf l6 (.agg #[.int .i64 z0, .int .i64 z1, .int .i64 z2, .int .i64 z3, .int .i64 z4, .int .i64 z5, .int .i64 z6, .int .i64 z7]) (u25), pkIf l7 (TV) (u26), pkIf l8 (V) (u27), u28, u29], defers := [] } ∧ Below Z.heap.size Z w' ∧ w'.ownsRow Z.heap.size 75 2 (if l8 = true then V else v5) (if l8 = true then n + GL.length else n) (if l8 = true then xs ++ GL.flatMap enc2 else xs) ∧ (l7 = true → l8 = false → P2Row w' TV GL) ∧ (l8 = true → l7 = true)
set_option maxRecDepth 100000 in
set_option maxHeartbeats 8000000 in
theorem rClashes_any (v1 v2 : Value) (cs : List Ci) (ks : List Ck) (w : World) (hv1 : CiRow w v1 cs) (hv2 : CkRow w v2 ks) (hl1 : cs.length ≤ 9223372036854775807) (hl2 : ks.length ≤ 9223372036854775807) :
    Calls Tryz.prog 8 #[.agg #[v1, v2]] w fun e w' => RcOut cs ks w e w' := by
  obtain ⟨a1, c1, rfl, hc1⟩ := hv1.form
  obtain ⟨a2, c2, rfl, _⟩ := hv2.form
  have HC := Lib.hid hc1
  have HCH := Lib.hid (fun w' (h : Below w.heap.size w w') => pCheck_any (.slice a1 cs.length c1) (.slice a2 ks.length c2) cs ks w' (hv1.keep h) (hv2.keep h) hl1 hl2)
  have HOK := Lib.hid (ccE_ok (cs := cs) (ks := ks))
  have HCL := Lib.hid (fun (ho : CcOk cs ks) k (hk : k < cs.length) w' (h : Below w.heap.size w w') => (clN_eq ho hk) ▸ clashing_any (.slice a1 cs.length c1) (.slice a2 ks.length c2) cs ks (cs.getD k .nil) w' (hv1.keep h) (hv2.keep h) ho (ci_self ho hk))
  have HLL := Lib.hid (show cs.length ≤ 9223372036854775807 from hl1)
  unfold RcOut
  obtain ⟨E, hE⟩ : ∃ z, ccE cs ks = z := ⟨_, rfl⟩
  rw [hE] at HCH HOK ⊢
  clear hE hc1 hv1 hv2
  obtain ⟨x0, x1, xlt, xb⟩ := two_cells w #[.slice a1 cs.length c1, .slice a2 ks.length c2] #[.slice none 0 0, .int .i64 0] 25 33 (Below.refl _ _)
  have HNc : Hid (((w.alloc (.cells #[.slice a1 cs.length c1, .slice a2 ks.length c2] 25)).alloc (.cells #[.slice none 0 0, .int .i64 0] 33)).heap[w.heap.size]? = some (.cells #[.slice a1 cs.length c1, .slice a2 ks.length c2] 25 (0, 0))) := Lib.hid x0
  have HNr : Hid (((w.alloc (.cells #[.slice a1 cs.length c1, .slice a2 ks.length c2] 25)).alloc (.cells #[.slice none 0 0, .int .i64 0] 33)).heap[w.heap.size + 1]? = some (.cells #[.slice none 0 0, .int .i64 0] 33 (0, 0))) := Lib.hid x1
  have HB : Hid (Below w.heap.size w ((w.alloc (.cells #[.slice a1 cs.length c1, .slice a2 ks.length c2] 25)).alloc (.cells #[.slice none 0 0, .int .i64 0] 33))) := Lib.hid xb
  obtain ⟨Z, hZ⟩ : ∃ Z, ((w.alloc (.cells #[.slice a1 cs.length c1, .slice a2 ks.length c2] 25)).alloc (.cells #[.slice none 0 0, .int .i64 0] 33)) = Z := ⟨_, rfl⟩
  rw [hZ] at HB HNc HNr
  have HZ := Lib.hid hZ
  clear hZ xlt xb x0 x1
  go_enter Tryz.func8, Tryz.ntmps8
  go_wp2_with fail
  rw [HZ.out]
  refine (HCH.out _ HB.out).mono ?_
  rintro e w1 ⟨rfl, hb⟩
  replace HB := Lib.hid (HB.out.trans (hb.mono HB.out.size))
  replace HNc := Lib.hid ((hb.block _ (Array.getElem?_eq_some_iff.1 HNc.out).1).trans HNc.out)
  replace HNr := Lib.hid ((hb.block _ (Array.getElem?_eq_some_iff.1 HNr.out).1).trans HNr.out)
  clear hb
  by_cases h0 : E = 0
  case neg =>
    have gE : (E == 0) = false := by simpa using h0
    have H0 := Lib.hid h0
    clear h0
    have zr0 := cellH HNr.out 0
    have zr1 := cellH HNr.out 1
    simp only [List.getElem?_toArray, List.getElem?_cons_zero, List.getElem?_cons_succ] at zr0 zr1
    have zfr := freeH HNr.out
    go_wp2_with fail
    obtain ⟨y1, y2⟩ := set2 HNr.out HB.out (by omega) (.slice none 0 0) (.int .i64 E)
    refine bodyPost_ret (results_cell_row Tryz.results8 _ _ (w.heap.size + 1) 33 _ (0, 0) _ rfl y1 Tryz.underlying33 rfl info_pr2) rfl ?_
    exact ⟨y2, fun _ => rfl, fun h => absurd h H0.out⟩
  have HO := Lib.hid (HOK.out h0)
  subst h0
  have HRZ : Hid (∀ W', Below w1.heap.size w1 W' → W'.cell? ⟨w.heap.size, 0, none⟩ = some (.slice a1 cs.length c1) ∧ W'.cell? ⟨w.heap.size, 1, none⟩ = some (.slice a2 ks.length c2)) := Lib.hid (fun W' h => ⟨cellH ((h.block _ (Array.getElem?_eq_some_iff.1 HNc.out).1).trans HNc.out) 0, cellH ((h.block _ (Array.getElem?_eq_some_iff.1 HNc.out).1).trans HNc.out) 1⟩)
  have HBZ := Lib.hid (fun W' (h : Below w1.heap.size w1 W') => HB.out.trans (h.mono HB.out.size))
  obtain ⟨i0, hi0, hz0, hz1, hz2⟩ := info_parts info_p2
  have HSZ : Hid (w.heap.size + 1 < w1.heap.size) := Lib.hid (Array.getElem?_eq_some_iff.1 HNr.out).1
  have HB1 := Lib.hid (Below.refl w1.heap.size w1)
  have HO1 : Hid (w1.ownsRow w1.heap.size 75 2 (.slice none 0 0) (clK cs ks 0).length ((clK cs ks 0).flatMap enc2)) := Lib.hid ⟨rfl, .inl ⟨rfl, rfl⟩⟩
  have zc0 := cellH HNc.out 0
  have zc1 := cellH HNc.out 1
  simp only [List.getElem?_toArray, List.getElem?_cons_zero, List.getElem?_cons_succ] at zc0 zc1
  go_wp2_with fail
  clear zc0 zc1
  go_loopw [4, 5] (fun x i wr => ∃ (k : Nat) (o : Value), k ≤ cs.length ∧ x = o ∧ i = .int .i64 k ∧ Hid (Below w1.heap.size w1 wr) ∧ Hid (wr.ownsRow w1.heap.size 75 2 o (clK cs ks k).length ((clK cs ks k).flatMap enc2))) (fun _ i _ => cs.length - (intOf i).toNat)
  case atStart => exact ⟨0, _, Nat.zero_le _, rfl, rfl, HB1, HO1⟩
  case round =>
    clear HO1 HB1
    obtain ⟨k, o, hk, hx5, rfl, hB, hO⟩ := hrel
    have hx5 := hx5.symm
    subst hx5
    obtain ⟨zc0, zc1⟩ := HRZ.out wr hB.out
    have hll := HLL.out
    have hnn := HO.out.n
    by_cases hkl : k < cs.length
    · obtain ⟨b, off, rfl, hb, hat⟩ := HC.out k hkl
      obtain ⟨e0, e1, e2, e3, e4, e5, e6, e7⟩ := hat.keep (HBZ.out wr hB.out) hb
      have hki : (k : Int) < cs.length := by omega
      have hk0 : (0 : Int) ≤ k := by omega
      have HKL := Lib.hid hkl
      have HBL := Lib.hid hb
      have HST := Lib.hid (clK_step (ks := ks) hkl)
      have HLN : Hid ((clK cs ks k).length ≤ 100000) := Lib.hid (by have := clK_len HO.out k hk; omega)
      have HLG := Lib.hid (clN_len HO.out (cs.getD k .nil))
      have HCC := Lib.hid (HCL.out HO.out k hkl)
      obtain ⟨GL, hGL⟩ : ∃ X, clN cs ks (cs.getD k .nil) = X := ⟨_, rfl⟩
      rw [hGL] at HST HLG HCC
      obtain ⟨X, hX⟩ : ∃ X, cs.getD k .nil = X := ⟨_, rfl⟩
      rw [hX] at e0 e1 e2 e3 e4 e5 e6 e7 hat HCC
      have HAT := Lib.hid hat
      obtain ⟨z0, z1, z2, z3, z4, z5, z6, z7⟩ := X
      simp only at e0 e1 e2 e3 e4 e5 e6 e7
      clear hX hGL hat hb
      obtain ⟨NN, hN⟩ : ∃ N, (clK cs ks k).length = N := ⟨_, rfl⟩
      obtain ⟨XS, hXS⟩ : ∃ N, (clK cs ks k).flatMap enc2 = N := ⟨_, rfl⟩
      rw [hN] at HLN
      rw [hN, hXS] at hO
      have HNX := Lib.hid (And.intro hN hXS)
      have hgl := HLG.out
      have hln := HLN.out
      clear hN hXS
      go_wp2_with fail
      clear e0 e1 e2 e3 e4 e5 e6 e7 zc0 zc1
      have HRT : Hid (∀ W', Below w1.heap.size w1 W' → W'.cell? ⟨w.heap.size, 0, none⟩ = some (.slice (some ⟨b, off, none⟩) cs.length c1) ∧ W'.cell? ⟨w.heap.size, 1, none⟩ = some (.slice a2 ks.length c2) ∧ CiAt W' b off k ⟨z0, z1, z2, z3, z4, z5, z6, z7⟩) := Lib.hid (fun W' h => ⟨(HRZ.out W' h).1, (HRZ.out W' h).2, HAT.out.keep (HBZ.out W' h) HBL.out⟩)
      refine wp_region_invtail 9 (by kernel_rfl) (by kernel_rfl) (by kernel_rfl) (by kernel_rfl) (of_decide_eq_true (by kernel_rfl)) (by kernel_rfl) (RkInv w1 w.heap.size k cs.length c1 ks.length c2 (some ⟨b, off, none⟩) a2 b off z0 z1 z2 z3 z4 z5 z6 z7 _ NN XS GL _ _ _ _ _ _ _ _ _ _ _ _ _ _ _ _ _ _ _ _ _ _ _ _ _ _ _) ⟨false, false, false, false, false, false, false, false, false, undef, undef, rfl, rfl, hB.out.drew, ownBelow hO.out (Below.refl _ wr).drew, by simp, by simp⟩ ?hend ?hstep
      case hstep =>
        rintro listed a w' i ⟨l0, l1, l2, l3, l4, l5, l6, l7, l8, TV, V, rfl, rfl, hb, hO, hT, kT⟩ hi hin
        obtain ⟨hf, o', ho', hp⟩ := mem_ready.1 hi
        clear hi
        obtain ⟨y0, y1, ⟨e0, e1, e2, e3, e4, e5, e6, e7⟩⟩ := HRT.out w' hb
        obtain rfl | rfl | rfl | rfl | rfl | rfl | rfl | rfl | rfl : i = 0 ∨ i = 1 ∨ i = 2 ∨ i = 3 ∨ i = 4 ∨ i = 5 ∨ i = 6 ∨ i = 7 ∨ i = 8 := by omega
        · obtain rfl : l0 = false := by simpa using hf
          clear hp ho'
          unfold wpOp
          simp only [pkIf_true]
          go_simp
          exact .inl ⟨true, l1, l2, l3, l4, l5, l6, l7, l8, TV, V, rfl, rfl, hb, hO, hT, kT⟩
        · obtain rfl : l1 = false := by simpa using hf
          clear hp ho'
          unfold wpOp
          simp only [pkIf_true]
          go_simp
          exact .inl ⟨l0, true, l2, l3, l4, l5, l6, l7, l8, TV, V, rfl, rfl, hb, hO, hT, kT⟩
        · obtain rfl : l2 = false := by simpa using hf
          clear hp ho'
          unfold wpOp
          simp only [pkIf_true]
          go_simp
          exact .inl ⟨l0, l1, true, l3, l4, l5, l6, l7, l8, TV, V, rfl, rfl, hb, hO, hT, kT⟩
        · obtain rfl : l3 = false := by simpa using hf
          cases ho'
          obtain rfl : l2 = true := by simpa using hp ⟨2, .data⟩ (by simp) rfl
          clear hp
          unfold wpOp
          simp only [pkIf_true]
          go_simp
          exact .inl ⟨l0, l1, true, true, l4, l5, l6, l7, l8, TV, V, rfl, rfl, hb, hO, hT, kT⟩
        · obtain rfl : l4 = false := by simpa using hf
          clear hp ho'
          unfold wpOp
          simp only [pkIf_true]
          go_simp
          exact .inl ⟨l0, l1, l2, l3, true, l5, l6, l7, l8, TV, V, rfl, rfl, hb, hO, hT, kT⟩
        · obtain rfl : l5 = false := by simpa using hf
          cases ho'
          obtain rfl : l3 = true := by simpa using hp ⟨3, .data⟩ (by simp) rfl
          obtain rfl : l4 = true := by simpa using hp ⟨4, .data⟩ (by simp) rfl
          clear hp
          unfold wpOp
          simp only [pkIf_true]
          go_simp
          exact .inl ⟨l0, l1, l2, true, true, true, l6, l7, l8, TV, V, rfl, rfl, hb, hO, hT, kT⟩
        · obtain rfl : l6 = false := by simpa using hf
          cases ho'
          obtain rfl : l5 = true := by simpa using hp ⟨5, .data⟩ (by simp) rfl
          clear hp
          unfold wpOp
          simp only [pkIf_true]
          go_simp
          exact .inl ⟨l0, l1, l2, l3, l4, true, true, l7, l8, TV, V, rfl, rfl, hb, hO, hT, kT⟩
        · obtain rfl : l7 = false := by simpa using hf
          obtain rfl : l8 = false := by
            cases l8 with
            | false => rfl
            | true => exact absurd (kT rfl) (by decide)
          cases ho'
          obtain rfl : l1 = true := by simpa using hp ⟨1, .data⟩ (by simp) rfl
          obtain rfl : l6 = true := by simpa using hp ⟨6, .data⟩ (by simp) rfl
          clear hp
          unfold wpOp
          simp only [pkIf_true]
          go_simp
          refine .inl ((HCC.out w' (HBZ.out w' hb)).mono ?_)
          rintro e w9 ⟨tv, rfl, hT9, hb9⟩
          exact ⟨l0, true, l2, l3, l4, l5, true, true, false, tv, V, rfl, rfl, hb.trans (hb9.mono hb.size), ownBelow hO hb9, (fun _ _ => hT9), (fun h => by cases h)⟩
        · obtain rfl : l8 = false := by simpa using hf
          cases ho'
          obtain rfl : l0 = true := by simpa using hp ⟨0, .data⟩ (by simp) rfl
          obtain rfl : l7 = true := by simpa using hp ⟨7, .data⟩ (by simp) rfl
          clear hp
          simp only [Bool.false_eq_true, if_false] at hO
          unfold wpOp
          simp only [pkIf_true, List.getElem?_toArray, List.getElem?_cons_succ, List.getElem?_cons_zero]
          refine ifWanted rfl (pair_append2 _ _ rfl w1.heap.size _ NN XS rfl hO TV GL rfl (hT rfl rfl) (by omega) hln hb.size ?_)
          intro v' w9 hown hgr hat
          exact ⟨true, l1, l2, l3, l4, l5, l6, true, true, TV, v', rfl, rfl, hb.grown hgr hb.size (fun j e => (World.ownsRow.lt hO j e).1), by simpa using hown, (fun _ h => by cases h), fun _ => rfl⟩
      case hend =>
        rintro listed a w9 ⟨l0, l1, l2, l3, l4, l5, l6, l7, l8, TV, V, rfl, rfl, hb, hO, hT, kT⟩ hall
        have hal : l0 = true ∧ l1 = true ∧ l2 = true ∧ l3 = true ∧ l4 = true ∧ l5 = true ∧ l6 = true ∧ l7 = true ∧ l8 = true := ⟨by simpa using hall 0 (by decide), by simpa using hall 1 (by decide), by simpa using hall 2 (by decide), by simpa using hall 3 (by decide), by simpa using hall 4 (by decide), by simpa using hall 5 (by decide), by simpa using hall 6 (by decide), by simpa using hall 7 (by decide), by simpa using hall 8 (by decide)⟩
        obtain ⟨rfl, rfl, rfl, rfl, rfl, rfl, rfl, rfl, rfl⟩ := hal
        simp only [if_true] at hO
        have HB9 := Lib.hid hb
        have HO9 := Lib.hid hO
        simp only [pkIf_true, List.drop_succ_cons, List.drop_zero]
        clear hall hb hO hT kT
        go_wp2_with fail
        go_roundw
        case rel => exact ⟨k + 1, V, HKL.out, rfl, by go_num, HB9, Lib.hid (by rw [HST.out, List.length_append, List.flatMap_append, HNX.out.1, HNX.out.2]; exact HO9.out)⟩
        case measure => have := HKL.out; simp [intOf]; omega
    · obtain rfl : k = cs.length := by omega
      have HNr9 := Lib.hid ((hB.out.block _ (Array.getElem?_eq_some_iff.1 HNr.out).1).trans HNr.out)
      have zr0 := cellH HNr9.out 0
      have zr1 := cellH HNr9.out 1
      simp only [List.getElem?_toArray, List.getElem?_cons_zero, List.getElem?_cons_succ] at zr0 zr1
      have zrf := freeH HNr9.out
      obtain ⟨oa, oc, rfl, _⟩ := (P2Row.of_own hO.out).form
      have HF := Lib.hid (row_set (row_set hO.out HNr9.out tPR 0 (.slice oa (clK cs ks cs.length).length oc)) (heap_same HNr9.out 0 (.slice oa (clK cs ks cs.length).length oc)) tPR 1 (.int .i64 0))
      have HF2 := Lib.hid (P2Row.of_own HF.out)
      clear HF
      go_wp2_with fail
      obtain ⟨y1, y2⟩ := set2 HNr9.out (HBZ.out _ hB.out) (by omega) (.slice oa (clK cs ks cs.length).length oc) (.int .i64 0)
      refine bodyPost_ret (results_cell_row Tryz.results8 _ _ (w.heap.size + 1) 33 _ (0, 0) _ rfl y1 Tryz.underlying33 rfl info_pr2) rfl ?_
      exact ⟨y2, _, rfl, HF2.out⟩
end Go.Proofs.YtpaihnjgpookjaaGreat
