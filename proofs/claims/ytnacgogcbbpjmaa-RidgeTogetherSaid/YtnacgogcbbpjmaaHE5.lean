/- The reference's line. -/
import Derived.Test.YtnacgogcbbpjmaaHE3
import Derived.Test.YtnacgogcbbpjmaaHE4
import Derived.Test.YtnacgogcbbpjmaaHT3
import Derived.Test.YtnacgogcbbpjmaaHC1
set_option linter.unusedVariables false
set_option linter.unusedSimpArgs false
namespace Go.Proofs.Ytnacgogcbbpjmaa
open Go Go.RowKit

/-- A profile that may be missing, and whether it is there. -/
def prV (x : Option Mt) : Value := match x with
  | some y => .tuple #[.agg (pfL y).toArray, .bool true]
  | none => pfZ
theorem isC_ax {a b : Pl} {i s : Nat} : isC (dist a.1 b.1).toNat (dist a.2 b.2).toNat (i, s) ↔ (i = 0 ∧ 1 ≤ (s : Int) ∧ (s : Int) < axN a b 0) ∨ (i = 1 ∧ 1 ≤ (s : Int) ∧ (s : Int) < axN a b 1) := by
  unfold isC axN
  simp only [reduceIte, Nat.one_ne_zero]
  omega
theorem rprofile_yes (wd hg : Int) (o : Value) (g : List Int) (a b : Pl) (i s : Nat) (w : World) (hv : INRow w o g) (hm : vmB wd hg g = true) (ha : onB wd hg a = true) (hb : onB wd hg b = true) (hc : isC (dist a.1 b.1).toNat (dist a.2 b.2).toNat (i, s)) :
    Calls Try.prog 108 #[mpV wd hg o, plV a, plV b, .agg #[.int .i64 i, .int .i64 s]] w fun e w' => e = .returned (.tuple #[.agg (pfL (mkM g wd a b (i, s))).toArray, .bool true]) ∧ Below w.heap.size w w' := by
  rcases isC_ax.1 hc with ⟨rfl, h⟩ | ⟨rfl, h⟩
  · exact rprofile_some0 wd hg o g a b s w hv hm ha hb h
  · exact rprofile_some1 wd hg o g a b s w hv hm ha hb h
theorem rprofile_no (wd hg : Int) (o : Value) (g : List Int) (a b : Pl) (i s : Nat) (w : World) (hm : vmB wd hg g = true) (ha : onB wd hg a = true) (hb : onB wd hg b = true) (hc : ¬ isC (dist a.1 b.1).toNat (dist a.2 b.2).toNat (i, s)) :
    Calls Try.prog 108 #[mpV wd hg o, plV a, plV b, .agg #[.int .i64 i, .int .i64 s]] w fun e w' => e = .returned pfZ ∧ Below w.heap.size w w' :=
  rprofile_none wd hg o g a b i s w hm ha hb fun h => hc (isC_ax.2 (by unfold hasC at h; omega))
set_option maxRecDepth 100000 in
set_option maxHeartbeats 8000000 in
theorem rline_any (wd hg : Int) (o : Value) (g : List Int) (a b : Pl) (w : World) (hv : INRow w o g) (hm : vmB wd hg g = true) (ha : onB wd hg a = true) (hb : onB wd hg b = true) :
    Calls Try.prog 100 #[mpV wd hg o, plV a, plV b] w fun e w' => ∃ v, e = .returned v ∧ Below w.heap.size w w' ∧ w'.ownsRow w.heap.size 71 6 v (mts g wd a b).length (pfs (mts g wd a b)) := by
  have HPY := Lib.hid (fun i s w' (h : Below w.heap.size w w') hc => rprofile_yes wd hg o g a b i s w' (hv.keep h) hm ha hb hc)
  have HPN := Lib.hid (fun i s w' hc => rprofile_no wd hg o g a b i s w' hm ha hb hc)
  obtain ⟨A1, A2, A3, A4⟩ := onB_ok ha
  obtain ⟨B1, B2, B3, B4⟩ := onB_ok hb
  obtain ⟨V1, V2, V3, V4, _, _⟩ := vmB_ok hm
  have d1 := dist_bd (a := a.1) (b := b.1) (by omega) (by omega)
  have d2 := dist_bd (a := a.2) (b := b.2) (by omega) (by omega)
  have HEND : Hid (mts g wd a b = (crsM (dist a.1 b.1).toNat (dist a.2 b.2).toNat 1 1).map (mkM g wd a b)) := Lib.hid rfl
  have HNX : Hid (∀ x y : Nat × Nat, isC (dist a.1 b.1).toNat (dist a.2 b.2).toNat x → isC (dist a.1 b.1).toNat (dist a.2 b.2).toNat y → ((lowP (mkM g wd a b x).k (mkM g wd a b x).n).1 * (lowP (mkM g wd a b y).k (mkM g wd a b y).n).2 < (lowP (mkM g wd a b y).k (mkM g wd a b y).n).1 * (lowP (mkM g wd a b x).k (mkM g wd a b x).n).2 ↔ keyC (dist a.1 b.1).toNat (dist a.2 b.2).toNat x < keyC (dist a.1 b.1).toNat (dist a.2 b.2).toNat y)) := Lib.hid (fun x y hx hy => by
    have n1 : (mkM g wd a b x).n = (nC (dist a.1 b.1).toNat (dist a.2 b.2).toNat x : Int) := by unfold mkM nC axN; simp only; split <;> omega
    have n2 : (mkM g wd a b y).n = (nC (dist a.1 b.1).toNat (dist a.2 b.2).toNat y : Int) := by unfold mkM nC axN; simp only; split <;> omega
    have p1 : 1 ≤ (nC (dist a.1 b.1).toNat (dist a.2 b.2).toNat x : Int) := by unfold nC; unfold isC at hx; split <;> omega
    have p2 : 1 ≤ (nC (dist a.1 b.1).toNat (dist a.2 b.2).toNat y : Int) := by unfold nC; unfold isC at hy; split <;> omega
    rw [low_less (by omega) (by omega), n1, n2, ← key_lt hx hy]
    show ((x.2 : Int) * _ < (y.2 : Int) * _) ↔ _
    rw [← Int.natCast_mul, ← Int.natCast_mul, Int.ofNat_lt])
  have HBD : Hid (∀ x, isC (dist a.1 b.1).toNat (dist a.2 b.2).toNat x → (0 ≤ (lowP (mkM g wd a b x).k (mkM g wd a b x).n).1 ∧ (lowP (mkM g wd a b x).k (mkM g wd a b x).n).1 ≤ 48) ∧ 0 ≤ (lowP (mkM g wd a b x).k (mkM g wd a b x).n).2 ∧ (lowP (mkM g wd a b x).k (mkM g wd a b x).n).2 ≤ 48) := Lib.hid (fun x hx => by
    have h := mts_bd hm ha hb (x := mkM g wd a b x) (by rw [HEND.out]; exact List.mem_map_of_mem ((crsM_isC _ _ _).2 hx))
    unfold lowP
    simp only
    have q0 := Int.ediv_nonneg (show 0 ≤ (mkM g wd a b x).k by omega) (Int.natCast_nonneg ((mkM g wd a b x).k.gcd (mkM g wd a b x).n))
    have q1 := Int.ediv_le_self ((mkM g wd a b x).k.gcd (mkM g wd a b x).n : Int) (show 0 ≤ (mkM g wd a b x).k by omega)
    have q2 := Int.ediv_nonneg (show 0 ≤ (mkM g wd a b x).n by omega) (Int.natCast_nonneg ((mkM g wd a b x).k.gcd (mkM g wd a b x).n))
    have q3 := Int.ediv_le_self ((mkM g wd a b x).k.gcd (mkM g wd a b x).n : Int) (show 0 ≤ (mkM g wd a b x).n by omega)
    omega)
  have hx48 : (dist a.1 b.1).toNat ≤ 48 := by omega
  have hy48 : (dist a.2 b.2).toNat ≤ 48 := by omega
  obtain ⟨dx, hdx⟩ : ∃ n, (dist a.1 b.1).toNat = n := ⟨_, rfl⟩
  obtain ⟨dy, hdy⟩ : ∃ n, (dist a.2 b.2).toNat = n := ⟨_, rfl⟩
  rw [hdx, hdy] at HPY HPN HEND HNX HBD
  rw [hdx] at hx48
  rw [hdy] at hy48
  obtain ⟨W1, hW1, hb0, hs1, hrd⟩ := three_reads w wd hg o a b
  have HW1 := Lib.hid hW1; have HB0 := Lib.hid hb0; have HRD := Lib.hid hrd
  have ead : w.heap.size + 1 + 1 = w.heap.size + 2 := rfl
  have hi0 := info_pf
  obtain ⟨i0, hi0, hz0⟩ := Option.map_eq_some_iff.1 hi0
  simp only [Prod.mk.injEq] at hz0
  obtain ⟨hz0, hz1, hz2⟩ := hz0
  clear hW1 hb0 hrd hdx hdy d1 d2 A1 A2 A3 A4 B1 B2 B3 B4 V1 V2 V3 V4 hv hm ha hb hs1
  unfold mpV plV at HPY HPN
  unfold mpV plV
  go_enter Try.func100, Try.ntmps100
  go_wp2_with fail
  rw [← HW1.out]
  go_loopw [7, 8] (fun v i wr => ∃ (L : List (Nat × Nat)) (j : Nat), j ≤ 2 ∧ i = .int .i64 j ∧ Hid (StL dx dy j 1 L) ∧ Hid (Below W1.heap.size W1 wr) ∧ Hid (wr.ownsRow W1.heap.size 71 6 v L.length (pfs (L.map (mkM g wd a b))))) (fun _ i _ => 2 - (intOf i).toNat)
  case atStart => exact ⟨[], 0, by omega, rfl, Lib.hid (StL.start dx dy), Lib.hid (Below.refl _ _), Lib.hid (World.ownsRow_nil _ _ _ _)⟩
  case round =>
    rename_i v _
    obtain ⟨L, j, hj, rfl, hS, hB, hO⟩ := hrel
    by_cases hj2 : j < 2
    · have hji : (j : Int) < 2 := by omega
      go_wp2_with fail
      go_loopw [7, 9] (fun v s wr => ∃ (L : List (Nat × Nat)) (k : Nat), 1 ≤ k ∧ k ≤ 49 ∧ s = .int .i64 k ∧ Hid (StL dx dy j k L) ∧ Hid (Below W1.heap.size W1 wr) ∧ Hid (wr.ownsRow W1.heap.size 71 6 v L.length (pfs (L.map (mkM g wd a b))))) (fun _ s _ => 49 - (intOf s).toNat)
      case atStart => exact ⟨L, 1, by omega, by omega, rfl, hS, hB, hO⟩
      case round =>
        clear hS hB hO
        obtain ⟨L, s, hs1, hs49, rfl, hS, hB, hO⟩ := hrel
        by_cases hs48 : s ≤ 48
        · have hsi : (s : Int) ≤ 48 := by omega
          obtain ⟨p0, p1, p2, p3, p4, p5, p6⟩ := HRD.out _ hB.out
          have HBw := Lib.hid (HB0.out.trans (hB.out.mono HB0.out.size))
          go_wp2_with fail
          by_cases hc : isC dx dy (j, s)
          · refine (HPY.out j s _ HBw.out hc).mono ?_
            rintro e w2 ⟨rfl, hb⟩
            have HC := Lib.hid hc
            have HB2 := Lib.hid (hB.out.trans (hb.mono hB.out.size))
            have HO2 := Lib.hid (own_below hO.out hb)
            have HLEN := Lib.hid hS.out.len
            have HNC := Lib.hid (fun y (hy : y ∈ L) => HNX.out (j, s) y hc ((hS.out.mem y).1 hy).1)
            have HBX := Lib.hid (HBD.out _ hc)
            have HBY := Lib.hid (fun y (hy : y ∈ L) => HBD.out y ((hS.out.mem y).1 hy).1)
            obtain ⟨x, hx⟩ : ∃ x, mkM g wd a b (j, s) = x := ⟨_, rfl⟩
            rw [hx] at HNC HBX ⊢
            have HX := Lib.hid hx
            have epf : (pfL x).toArray = #[.int .i64 x.ax, .int .i64 x.k, .int .i64 (lowP x.k x.n).1, .int .i64 (lowP x.k x.n).2, .int .i64 (lowP x.g x.n).1, .int .i64 (lowP x.g x.n).2] := rfl
            rw [epf]
            obtain ⟨va, vc, rfl, hpf⟩ := pf_formL HO2.out
            have HPF := Lib.hid hpf
            clear epf hb hpf p0 p1 p2 p3 p4 p5 p6 hx hc
            have HZR : Hid ((w2.alloc (.cells #[.int .i64 x.ax, .int .i64 x.k, .int .i64 (lowP x.k x.n).1, .int .i64 (lowP x.k x.n).2, .int .i64 (lowP x.g x.n).1, .int .i64 (lowP x.g x.n).2] 71)).heap[w2.heap.size]? = some (.cells #[.int .i64 x.ax, .int .i64 x.k, .int .i64 (lowP x.k x.n).1, .int .i64 (lowP x.k x.n).2, .int .i64 (lowP x.g x.n).1, .int .i64 (lowP x.g x.n).2] 71 (0, 0))) := Lib.hid (heap_alloc_new _ _)
            have HZB := Lib.hid (HB2.out.alloc HB2.out.size (.cells #[.int .i64 x.ax, .int .i64 x.k, .int .i64 (lowP x.k x.n).1, .int .i64 (lowP x.k x.n).2, .int .i64 (lowP x.g x.n).1, .int .i64 (lowP x.g x.n).2] 71))
            have HZO := Lib.hid (HO2.out.alloc (.cells #[.int .i64 x.ax, .int .i64 x.k, .int .i64 (lowP x.k x.n).1, .int .i64 (lowP x.k x.n).2, .int .i64 (lowP x.g x.n).1, .int .i64 (lowP x.g x.n).2] 71))
            have HLT := Lib.hid (fun q e => (HO2.out.lt q e).2)
            have HW1L : Hid (W1.heap.size ≤ w2.heap.size) := Lib.hid HB2.out.size
            obtain ⟨Z, hZe⟩ : ∃ Z, w2.alloc (.cells #[.int .i64 x.ax, .int .i64 x.k, .int .i64 (lowP x.k x.n).1, .int .i64 (lowP x.k x.n).2, .int .i64 (lowP x.g x.n).1, .int .i64 (lowP x.g x.n).2] 71) = Z := ⟨_, rfl⟩
            rw [hZe] at HZR HZB HZO
            have HZ := Lib.hid hZe
            clear hZe
            go_wp2_with fail
            rw [HZ.out]
            obtain ⟨c8, hc8⟩ : ∃ n, w2.heap.size = n := ⟨_, rfl⟩
            rw [hc8] at HZR HLT HW1L ⊢
            have HC8 := Lib.hid hc8
            clear hc8
            go_loopw [12] (fun k wr => ∃ (q : Nat), q ≤ L.length ∧ k = .int .i64 q ∧ Hid (∀ t (ht : t < L.length), q ≤ t → keyC dx dy (j, s) < keyC dx dy L[t]) ∧ Hid (Below Z.heap.size Z wr)) (fun k _ => (intOf k).toNat)
            case atStart => exact ⟨L.length, Nat.le_refl _, rfl, Lib.hid (fun t ht h => by omega), Lib.hid (Below.refl _ _)⟩
            case round =>
              obtain ⟨q, hq, rfl, hK, hBk⟩ := hrel
              have KP : Hid (∀ W', Below wr.heap.size wr W' → W'.cell? ⟨c8, 2, none⟩ = some (.int .i64 (lowP x.k x.n).1) ∧ W'.cell? ⟨c8, 3, none⟩ = some (.int .i64 (lowP x.k x.n).2)) := Lib.hid (fun W' h => by
                have hb2 := hBk.out.trans (h.mono hBk.out.size)
                have m := (hb2.block _ (Array.getElem?_eq_some_iff.1 HZR.out).1).trans HZR.out
                exact ⟨cellH m 2, cellH m 3⟩)
              rcases q with _ | q
              · go_wp2_with fail
                refine wp_region_turn 12 (fun _ w' => Below wr.heap.size wr w') (by kernel_rfl) (by kernel_rfl) ((Below.refl _ wr).drew) ?_
                simp only [List.take_succ_cons, List.take_zero, List.drop_succ_cons, List.drop_zero]
                iterate 3
                  (apply turnC_step (by rfl); (intro w' hw'; go_simp; first | exact ⟨hw', rfl⟩ | exact rfl))
                  simp only [Act.put, List.setIfInBounds_toArray, List.set_cons_succ, List.set_cons_zero]
                iterate 9
                  apply turnC_skip (by rfl)
                  simp only [Act.put, List.setIfInBounds_toArray, List.set_cons_succ, List.set_cons_zero]
                intro listed w3 _ hw3
                have HB3 := Lib.hid (hBk.out.trans (hw3.mono hBk.out.size))
                clear hw3
                have HP3 := Lib.hid ((HB3.out.block _ (Array.getElem?_eq_some_iff.1 HZR.out).1).trans HZR.out)
                have hO3 := own_below HZO.out HB3.out
                have HBW3 := Lib.hid (HZB.out.trans (HB3.out.mono HZB.out.size))
                have x0 := cellH HP3.out 0
                have x1 := cellH HP3.out 1
                have x2 := cellH HP3.out 2
                have x3 := cellH HP3.out 3
                have x4 := cellH HP3.out 4
                have x5 := cellH HP3.out 5
                simp at x0 x1 x2 x3 x4 x5
                have h63 : L.length + 1 ≤ maxLen := by unfold maxLen; have := HLEN.out; omega
                have hby : (L.length + 1) * 48 ≤ 140737488355328 := by have := HLEN.out; omega
                have hbase : W1.heap.size ≤ w3.heap.size := HBW3.out.size
                have hc8s : c8 < w3.heap.size := (Array.getElem?_eq_some_iff.1 HP3.out).1
                have hnw : Hid (∀ (j : Nat) (u : Value), [Value.int .i64 x.ax, .int .i64 x.k, .int .i64 (lowP x.k x.n).1, .int .i64 (lowP x.k x.n).2, .int .i64 (lowP x.g x.n).1, .int .i64 (lowP x.g x.n).2][j]? = some u → (w3.alloc (.cells #[.int .i64 x.ax, .int .i64 x.k, .int .i64 (lowP x.k x.n).1, .int .i64 (lowP x.k x.n).2, .int .i64 (lowP x.g x.n).1, .int .i64 (lowP x.g x.n).2] 71)).cell? ((⟨w3.heap.size, 0, none⟩ : Addr).add j) = some u) := Lib.hid (fun j u h => by
                  rw [addr_add, Nat.zero_add, World.cell?_alloc_new]; simpa using h)
                go_wp2_with (at_builtin; refine wpList_append_own_at _ rfl _ _ 54 rfl W1.heap.size 71 i0 (.agg #[.int .i64 0, .int .i64 0, .int .i64 0, .int .i64 0, .int .i64 0, .int .i64 0]) 6 48 Try.underlying54 hi0 hz0 hz1 hz2 rfl (by decide) _ _ _ rfl (World.ownsRow.alloc hO3 _) ⟨w3.heap.size, 0, none⟩ 1 1 [.int .i64 x.ax, .int .i64 x.k, .int .i64 (lowP x.k x.n).1, .int .i64 (lowP x.k x.n).2, .int .i64 (lowP x.g x.n).1, .int .i64 (lowP x.g x.n).2] rfl rfl hnw.out (by simp [Value.oneCell']) h63 hby (by simp; omega) ?_; intro v' w6 hown' hgrow _ hat; obtain ⟨g', cap', rfl⟩ := ownsRow_succ hown')
                have HO6 : Hid (w6.ownsRow W1.heap.size 71 6 (.slice (some ⟨g', 0, none⟩) (L.length + 1) cap') (L.length + 1) (pfs (shL (L.map (mkM g wd a b)) x L.length))) := Lib.hid (by
                  have e : shL (L.map (mkM g wd a b)) x L.length = L.map (mkM g wd a b) ++ [x] := by have := shL_top (L.map (mkM g wd a b)) x; rw [List.length_map] at this; exact this
                  rw [e, show pfs (L.map (mkM g wd a b) ++ [x]) = pfs (L.map (mkM g wd a b)) ++ pfL x by unfold pfs; rw [List.flatMap_append]; simp]
                  exact hown')
                have HLT3 : Hid (some c8 ≠ (Value.slice va L.length vc).ownBlock) := Lib.hid (fun e => by have := HLT.out c8 e.symm; omega)
                have HGC : Hid (g' ≠ c8) := Lib.hid (by
                  rcases hat with h | h
                  · intro e; rw [e] at h; exact HLT3.out h
                  · have : g' = w3.heap.size + 1 := by simpa [Value.ownBlock] using h
                    omega)
                have HP6 := Lib.hid ((hgrow.block c8 (by simp; omega) HLT3.out).trans ((gNe w3 _ c8 (by omega)).trans HP3.out))
                have HB6 : Hid (Below W1.heap.size W1 w6) := Lib.hid ((HBW3.out.alloc hbase _).grown hgrow (by simp; omega) (fun j e => (World.ownsRow.lt hO3 j e).1))
                have HLL : Hid (L.length ≤ 200) := Lib.hid (by have := HLEN.out; omega)
                have E4 : wrap64 (L.length : Int) = (L.length : Int) := w64 (by have := HLL.out; omega)
                have e5 : ((L.length + 1 : Nat) : Int) - 1 = (L.length : Int) := by omega
                clear hown' hgrow hat hO3 x0 x1 x2 x3 x4 x5 hnw h63 hby hbase hc8s
                go_wp2_with fail
                clear E4 e5
                go_loopw [13] (fun i wr => ∃ (m : Nat), 0 ≤ m ∧ m ≤ L.length ∧ i = .int .i64 m ∧ Hid (wr.ownsRow W1.heap.size 71 6 (.slice (some ⟨g', 0, none⟩) (L.length + 1) cap') (L.length + 1) (pfs (shL (L.map (mkM g wd a b)) x m))) ∧ Hid (wr.heap[c8]? = some (.cells #[.int .i64 x.ax, .int .i64 x.k, .int .i64 (lowP x.k x.n).1, .int .i64 (lowP x.k x.n).2, .int .i64 (lowP x.g x.n).1, .int .i64 (lowP x.g x.n).2] 71 (0, 0))) ∧ Hid (Below W1.heap.size W1 wr)) (fun i _ => (intOf i).toNat)
                case atStart => exact ⟨L.length, by omega, Nat.le_refl _, rfl, HO6, HP6, HB6⟩
                case round =>
                  obtain ⟨m, hkm, hmL, rfl, hOm, hPm, hBm⟩ := hrel
                  have hMl := shL_len (L.map (mkM g wd a b)) x (i := m) (by rw [List.length_map]; exact hmL)
                  rw [List.length_map] at hMl
                  have hxf := fun j => World.ownsRow.frozenAt hOm.out j
                  have hgb' : W1.heap.size ≤ g' := (World.ownsRow.lt hOm.out g' rfl).1
                  by_cases hkm2 : 0 < m
                  · obtain ⟨p, hp, n1, n2, n3, n4, n5, n6, n7⟩ := loop_nums hkm2 hmL
                    have hmk : p < (L.map (mkM g wd a b)).length := by rw [List.length_map]; exact n1
                    have hget := shL_get (L.map (mkM g wd a b)) x hmk
                    have hstep := shL_step (L.map (mkM g wd a b)) x hmk
                    rw [← hp] at hget hstep
                    rw [List.getElem?_eq_getElem hmk] at hget
                    obtain ⟨y, hy⟩ : ∃ y, (L.map (mkM g wd a b))[p] = y := ⟨_, rfl⟩
                    rw [hy] at hget hstep
                    obtain ⟨z, hz⟩ : ∃ z, (shL (L.map (mkM g wd a b)) x m)[m]? = some z := ⟨_, List.getElem?_eq_getElem (by rw [hMl]; exact n6)⟩
                    have y0 : wr.cell? ⟨g', p * 6, none⟩ = some (.int .i64 y.ax) := pf_cell hOm.out hget (j := 0) (by decide)
                    have y1 : wr.cell? ⟨g', p * 6 + 1, none⟩ = some (.int .i64 y.k) := pf_cell hOm.out hget (j := 1) (by decide)
                    have y2 : wr.cell? ⟨g', p * 6 + 2, none⟩ = some (.int .i64 (lowP y.k y.n).1) := pf_cell hOm.out hget (j := 2) (by decide)
                    have y3 : wr.cell? ⟨g', p * 6 + 3, none⟩ = some (.int .i64 (lowP y.k y.n).2) := pf_cell hOm.out hget (j := 3) (by decide)
                    have y4 : wr.cell? ⟨g', p * 6 + 4, none⟩ = some (.int .i64 (lowP y.g y.n).1) := pf_cell hOm.out hget (j := 4) (by decide)
                    have y5 : wr.cell? ⟨g', p * 6 + 5, none⟩ = some (.int .i64 (lowP y.g y.n).2) := pf_cell hOm.out hget (j := 5) (by decide)
                    have z0 : wr.cell? ⟨g', m * 6, none⟩ = some (.int .i64 z.ax) := pf_cell hOm.out hz (j := 0) (by decide)
                    have z1 : wr.cell? ⟨g', m * 6 + 1, none⟩ = some (.int .i64 z.k) := pf_cell hOm.out hz (j := 1) (by decide)
                    have z2 : wr.cell? ⟨g', m * 6 + 2, none⟩ = some (.int .i64 (lowP z.k z.n).1) := pf_cell hOm.out hz (j := 2) (by decide)
                    have z3 : wr.cell? ⟨g', m * 6 + 3, none⟩ = some (.int .i64 (lowP z.k z.n).2) := pf_cell hOm.out hz (j := 3) (by decide)
                    have z4 : wr.cell? ⟨g', m * 6 + 4, none⟩ = some (.int .i64 (lowP z.g z.n).1) := pf_cell hOm.out hz (j := 4) (by decide)
                    have z5 : wr.cell? ⟨g', m * 6 + 5, none⟩ = some (.int .i64 (lowP z.g z.n).2) := pf_cell hOm.out hz (j := 5) (by decide)
                    have HO7 := pf_stored hOm.out (i := m) (by rw [hMl]; exact n6) y
                    rw [hstep] at HO7
                    have HO7 := Lib.hid HO7
                    have HP7 := Lib.hid ((((((heap_other _ _ _ _ _ (Ne.symm HGC.out)).trans (heap_other _ _ _ _ _ (Ne.symm HGC.out))).trans (heap_other _ _ _ _ _ (Ne.symm HGC.out))).trans (heap_other _ _ _ _ _ (Ne.symm HGC.out))).trans (heap_other _ _ _ _ _ (Ne.symm HGC.out))).trans (heap_other _ _ _ _ _ (Ne.symm HGC.out)) |>.trans hPm.out : (((((((wr.setCell ⟨g', m * 6, none⟩ (.int .i64 y.ax)).setCell ⟨g', m * 6 + 1, none⟩ (.int .i64 y.k)).setCell ⟨g', m * 6 + 2, none⟩ (.int .i64 (lowP y.k y.n).1)).setCell ⟨g', m * 6 + 3, none⟩ (.int .i64 (lowP y.k y.n).2)).setCell ⟨g', m * 6 + 4, none⟩ (.int .i64 (lowP y.g y.n).1)).setCell ⟨g', m * 6 + 5, none⟩ (.int .i64 (lowP y.g y.n).2))).heap[c8]? = _)
                    have HB7 := Lib.hid ((((((hBm.out.setCell (p := ⟨g', m * 6, none⟩) hgb' (.int .i64 y.ax)).setCell (p := ⟨g', m * 6 + 1, none⟩) hgb' (.int .i64 y.k)).setCell (p := ⟨g', m * 6 + 2, none⟩) hgb' (.int .i64 (lowP y.k y.n).1)).setCell (p := ⟨g', m * 6 + 3, none⟩) hgb' (.int .i64 (lowP y.k y.n).2)).setCell (p := ⟨g', m * 6 + 4, none⟩) hgb' (.int .i64 (lowP y.g y.n).1)).setCell (p := ⟨g', m * 6 + 5, none⟩) hgb' (.int .i64 (lowP y.g y.n).2))
                    have E5 : wrap64 ((m : Int) - 1) = (p : Int) := by rw [n7]; exact w64 ⟨by omega, by have := Int.ofNat_le.2 (Nat.le_trans n3 HLL.out); omega⟩
                    have hms : (intOf (Value.int .i64 (p : Int))).toNat < (intOf (Value.int .i64 (m : Int))).toNat := by rw [hp]; exact meas_down p
                    clear hget hstep hy hz hmk hMl hgb' hp n7
                    go_wp2_with fail
                    try rw [E5]
                    exact ⟨⟨p, n2, n3, rfl, HO7, HP7, HB7⟩, hms⟩
                  · obtain rfl : m = 0 := Nat.le_antisymm (Nat.le_of_not_lt hkm2) hkm
                    have hMk : 0 < (shL (L.map (mkM g wd a b)) x (0)).length := by rw [hMl]; exact Nat.lt_succ_of_le hmL
                    obtain ⟨z, hz⟩ : ∃ z, (shL (L.map (mkM g wd a b)) x (0))[0]? = some z := ⟨_, List.getElem?_eq_getElem hMk⟩
                    have z0 : wr.cell? ⟨g', 0, none⟩ = some (.int .i64 z.ax) := pf_cell hOm.out hz (j := 0) (by decide)
                    have z1 : wr.cell? ⟨g', 1, none⟩ = some (.int .i64 z.k) := pf_cell hOm.out hz (j := 1) (by decide)
                    have z2 : wr.cell? ⟨g', 2, none⟩ = some (.int .i64 (lowP z.k z.n).1) := pf_cell hOm.out hz (j := 2) (by decide)
                    have z3 : wr.cell? ⟨g', 3, none⟩ = some (.int .i64 (lowP z.k z.n).2) := pf_cell hOm.out hz (j := 3) (by decide)
                    have z4 : wr.cell? ⟨g', 4, none⟩ = some (.int .i64 (lowP z.g z.n).1) := pf_cell hOm.out hz (j := 4) (by decide)
                    have z5 : wr.cell? ⟨g', 5, none⟩ = some (.int .i64 (lowP z.g z.n).2) := pf_cell hOm.out hz (j := 5) (by decide)
                    have x0 := cellH hPm.out 0
                    have x1 := cellH hPm.out 1
                    have x2 := cellH hPm.out 2
                    have x3 := cellH hPm.out 3
                    have x4 := cellH hPm.out 4
                    have x5 := cellH hPm.out 5
                    simp at x0 x1 x2 x3 x4 x5
                    have hend := shL_end (L.map (mkM g wd a b)) x (k := 0) (by rw [List.length_map]; exact hmL)
                    have HO7 : ((((((wr.setCell ⟨g', 0, none⟩ (.int .i64 x.ax)).setCell ⟨g', 1, none⟩ (.int .i64 x.k)).setCell ⟨g', 2, none⟩ (.int .i64 (lowP x.k x.n).1)).setCell ⟨g', 3, none⟩ (.int .i64 (lowP x.k x.n).2)).setCell ⟨g', 4, none⟩ (.int .i64 (lowP x.g x.n).1)).setCell ⟨g', 5, none⟩ (.int .i64 (lowP x.g x.n).2)).ownsRow W1.heap.size 71 6 (.slice (some ⟨g', 0, none⟩) (L.length + 1) cap') (L.length + 1) (pfs ((shL (L.map (mkM g wd a b)) x (0)).set (0) x)) := pf_stored hOm.out (i := 0) hMk x
                    rw [hend] at HO7
                    have HOF : Hid (((((((wr.setCell ⟨g', 0, none⟩ (.int .i64 x.ax)).setCell ⟨g', 1, none⟩ (.int .i64 x.k)).setCell ⟨g', 2, none⟩ (.int .i64 (lowP x.k x.n).1)).setCell ⟨g', 3, none⟩ (.int .i64 (lowP x.k x.n).2)).setCell ⟨g', 4, none⟩ (.int .i64 (lowP x.g x.n).1)).setCell ⟨g', 5, none⟩ (.int .i64 (lowP x.g x.n).2)).ownsRow W1.heap.size 71 6 (.slice (some ⟨g', 0, none⟩) (L.length + 1) cap') (L.take (0) ++ (j, s) :: L.drop (0)).length (pfs ((L.take (0) ++ (j, s) :: L.drop (0)).map (mkM g wd a b)))) := Lib.hid (by
                      rw [ins_len L (j, s) hmL, List.map_append, List.map_cons, List.map_take, List.map_drop, HX.out]; exact HO7)
                    have HB7 := Lib.hid ((((((hBm.out.setCell (p := ⟨g', 0, none⟩) hgb' (.int .i64 x.ax)).setCell (p := ⟨g', 1, none⟩) hgb' (.int .i64 x.k)).setCell (p := ⟨g', 2, none⟩) hgb' (.int .i64 (lowP x.k x.n).1)).setCell (p := ⟨g', 3, none⟩) hgb' (.int .i64 (lowP x.k x.n).2)).setCell (p := ⟨g', 4, none⟩) hgb' (.int .i64 (lowP x.g x.n).1)).setCell (p := ⟨g', 5, none⟩) hgb' (.int .i64 (lowP x.g x.n).2))
                    have HS2 := Lib.hid (hS.out.put HC.out hmL hK.out (.inl rfl))
                    clear hz hend hMl hgb' HO7
                    go_wp2_with fail
                    go_roundw
                    case rel => exact ⟨L.take (0) ++ (j, s) :: L.drop (0), s + 1, Nat.le_add_left _ _, Nat.succ_le_succ hs48, by go_num, HS2, HB7, HOF⟩
                    case measure => first | (simp [intOf]; done) | (simp [intOf]; omega)
              · obtain ⟨gb, rfl, hgb, hcell⟩ := HPF.out q (by omega)
                have hql : q < L.length := by omega
                have HNQ := Lib.hid (HNC.out L[q] (List.getElem_mem hql))
                have HBQ := Lib.hid (HBY.out L[q] (List.getElem_mem hql))
                obtain ⟨y, hy⟩ : ∃ y, mkM g wd a b L[q] = y := ⟨_, rfl⟩
                rw [hy] at HNQ HBQ hcell
                have KR : Hid (∀ W', Below wr.heap.size wr W' → W'.cell? ⟨gb, q * 6 + 2, none⟩ = some (.int .i64 (lowP y.k y.n).1) ∧ W'.cell? ⟨gb, q * 6 + 3, none⟩ = some (.int .i64 (lowP y.k y.n).2)) := Lib.hid (fun W' h => by
                  have hb2 := hBk.out.trans (h.mono hBk.out.size)
                  have hz2 : Below w2.heap.size w2 Z := by rw [← HZ.out]; exact (Below.refl _ _).alloc (Nat.le_refl _) _
                  have hb3 := hz2.trans (hb2.mono hz2.size)
                  exact ⟨(hb3.cell (p := ⟨gb, _, none⟩) hgb).trans (hcell 2 (by decide)), (hb3.cell (p := ⟨gb, _, none⟩) hgb).trans (hcell 3 (by decide))⟩)
                obtain ⟨⟨⟨u1, u2⟩, u3, u4⟩, ⟨v1, v2⟩, v3, v4⟩ := (⟨HBX.out, HBQ.out⟩ : _ ∧ _)
                have m1 : 0 ≤ (lowP x.k x.n).1 * (lowP y.k y.n).2 := Int.mul_nonneg u1 v3
                have m2 : (lowP x.k x.n).1 * (lowP y.k y.n).2 ≤ 48 * 48 := Int.mul_le_mul u2 v4 v3 (by omega)
                have m3 : 0 ≤ (lowP y.k y.n).1 * (lowP x.k x.n).2 := Int.mul_nonneg v1 u3
                have m4 : (lowP y.k y.n).1 * (lowP x.k x.n).2 ≤ 48 * 48 := Int.mul_le_mul v2 u4 u3 (by omega)
                have KL : Hid (∀ w', Below wr.heap.size wr w' → Calls Try.prog 109 #[.agg #[.int .i64 (lowP x.k x.n).1, .int .i64 (lowP x.k x.n).2], .agg #[.int .i64 (lowP y.k y.n).1, .int .i64 (lowP y.k y.n).2]] w' fun e w'' => e = .returned (.bool (decide (keyC dx dy (j, s) < keyC dx dy L[q]))) ∧ Below wr.heap.size wr w'') := Lib.hid (fun w' h => by
                  refine (rless_any _ _ _ _ w' (IntWalk.i64_in _ (by omega)) (IntWalk.i64_in _ (by omega))).mono fun e w'' ⟨he, hh⟩ => ⟨?_, h.trans (hh.mono h.size)⟩
                  rw [he]
                  exact ret_bool' (decide_eq_decide.2 HNQ.out))
                obtain ⟨cb, hcb⟩ : ∃ c, decide (keyC dx dy (j, s) < keyC dx dy L[q]) = c := ⟨_, rfl⟩
                rw [hcb] at KL
                have HCB := Lib.hid hcb
                clear m1 m2 m3 m4 u1 u2 u3 u4 v1 v2 v3 v4 hgb hcell hy HBQ HNQ hcb
                have E1 : IntKind.i64.wrap (q : Int) = (q : Int) := IntWalk.i64_in _ (by have := HLEN.out; omega)
                have hqi : (q : Int) < L.length := by omega
                go_wp2_with fail
                refine wp_region_turn 12 (fun _ w' => Below wr.heap.size wr w') (by kernel_rfl) (by kernel_rfl) ((Below.refl _ wr).drew) ?_
                simp only [List.take_succ_cons, List.take_zero, List.drop_succ_cons, List.drop_zero]
                iterate 11
                  (apply turnC_step (by rfl); (intro w' hw'; obtain ⟨x0, x1⟩ := KP.out w' hw'; obtain ⟨y0, y1⟩ := KR.out w' hw'; go_simp; first | exact ⟨hw', rfl⟩ | exact rfl))
                  simp only [Act.put, List.setIfInBounds_toArray, List.set_cons_succ, List.set_cons_zero]
                (apply turnC_step (by rfl); (intro w' hw'; go_simp; exact KL.out w' hw'))
                simp only [Act.put, List.setIfInBounds_toArray, List.set_cons_succ, List.set_cons_zero]
                intro listed w3 _ hw3
                have HB3 := Lib.hid (hBk.out.trans (hw3.mono hBk.out.size))
                clear hw3
                cases cb
                case true =>
                  have HK2 : Hid (∀ t (ht : t < L.length), q ≤ t → keyC dx dy (j, s) < keyC dx dy L[t]) := Lib.hid (fun t ht h => by
                    by_cases e : t = q
                    · subst e; exact of_decide_eq_true HCB.out
                    · exact hK.out t ht (by omega))
                  clear E1 hqi HCB
                  have E2 : wrap64 (q : Int) = (q : Int) := w64 (by have := HLEN.out; omega)
                  go_wp2_with fail
                  rw [E2]
                  exact ⟨⟨q, Nat.le_of_lt hql, rfl, HK2, HB3⟩, meas_down q⟩
                case false =>
                  have HQ : Hid (¬ keyC dx dy (j, s) < keyC dx dy L[q]) := Lib.hid (of_decide_eq_false HCB.out)
                  clear E1 hqi HCB
                  have HP3 := Lib.hid ((HB3.out.block _ (Array.getElem?_eq_some_iff.1 HZR.out).1).trans HZR.out)
                  have hO3 := own_below HZO.out HB3.out
                  have HBW3 := Lib.hid (HZB.out.trans (HB3.out.mono HZB.out.size))
                  have x0 := cellH HP3.out 0
                  have x1 := cellH HP3.out 1
                  have x2 := cellH HP3.out 2
                  have x3 := cellH HP3.out 3
                  have x4 := cellH HP3.out 4
                  have x5 := cellH HP3.out 5
                  simp at x0 x1 x2 x3 x4 x5
                  have h63 : L.length + 1 ≤ maxLen := by unfold maxLen; have := HLEN.out; omega
                  have hby : (L.length + 1) * 48 ≤ 140737488355328 := by have := HLEN.out; omega
                  have hbase : W1.heap.size ≤ w3.heap.size := HBW3.out.size
                  have hc8s : c8 < w3.heap.size := (Array.getElem?_eq_some_iff.1 HP3.out).1
                  have hnw : Hid (∀ (j : Nat) (u : Value), [Value.int .i64 x.ax, .int .i64 x.k, .int .i64 (lowP x.k x.n).1, .int .i64 (lowP x.k x.n).2, .int .i64 (lowP x.g x.n).1, .int .i64 (lowP x.g x.n).2][j]? = some u → (w3.alloc (.cells #[.int .i64 x.ax, .int .i64 x.k, .int .i64 (lowP x.k x.n).1, .int .i64 (lowP x.k x.n).2, .int .i64 (lowP x.g x.n).1, .int .i64 (lowP x.g x.n).2] 71)).cell? ((⟨w3.heap.size, 0, none⟩ : Addr).add j) = some u) := Lib.hid (fun j u h => by
                    rw [addr_add, Nat.zero_add, World.cell?_alloc_new]; simpa using h)
                  go_wp2_with (at_builtin; refine wpList_append_own_at _ rfl _ _ 54 rfl W1.heap.size 71 i0 (.agg #[.int .i64 0, .int .i64 0, .int .i64 0, .int .i64 0, .int .i64 0, .int .i64 0]) 6 48 Try.underlying54 hi0 hz0 hz1 hz2 rfl (by decide) _ _ _ rfl (World.ownsRow.alloc hO3 _) ⟨w3.heap.size, 0, none⟩ 1 1 [.int .i64 x.ax, .int .i64 x.k, .int .i64 (lowP x.k x.n).1, .int .i64 (lowP x.k x.n).2, .int .i64 (lowP x.g x.n).1, .int .i64 (lowP x.g x.n).2] rfl rfl hnw.out (by simp [Value.oneCell']) h63 hby (by simp; omega) ?_; intro v' w6 hown' hgrow _ hat; obtain ⟨g', cap', rfl⟩ := ownsRow_succ hown')
                  have HO6 : Hid (w6.ownsRow W1.heap.size 71 6 (.slice (some ⟨g', 0, none⟩) (L.length + 1) cap') (L.length + 1) (pfs (shL (L.map (mkM g wd a b)) x L.length))) := Lib.hid (by
                    have e : shL (L.map (mkM g wd a b)) x L.length = L.map (mkM g wd a b) ++ [x] := by have := shL_top (L.map (mkM g wd a b)) x; rw [List.length_map] at this; exact this
                    rw [e, show pfs (L.map (mkM g wd a b) ++ [x]) = pfs (L.map (mkM g wd a b)) ++ pfL x by unfold pfs; rw [List.flatMap_append]; simp]
                    exact hown')
                  have HLT3 : Hid (some c8 ≠ (Value.slice (some ⟨gb, 0, none⟩) L.length vc).ownBlock) := Lib.hid (fun e => by have := HLT.out c8 e.symm; omega)
                  have HGC : Hid (g' ≠ c8) := Lib.hid (by
                    rcases hat with h | h
                    · intro e; rw [e] at h; exact HLT3.out h
                    · have : g' = w3.heap.size + 1 := by simpa [Value.ownBlock] using h
                      omega)
                  have HP6 := Lib.hid ((hgrow.block c8 (by simp; omega) HLT3.out).trans ((gNe w3 _ c8 (by omega)).trans HP3.out))
                  have HB6 : Hid (Below W1.heap.size W1 w6) := Lib.hid ((HBW3.out.alloc hbase _).grown hgrow (by simp; omega) (fun j e => (World.ownsRow.lt hO3 j e).1))
                  have HLL : Hid (L.length ≤ 200) := Lib.hid (by have := HLEN.out; omega)
                  have E4 : wrap64 (L.length : Int) = (L.length : Int) := w64 (by have := HLL.out; omega)
                  have e5 : ((L.length + 1 : Nat) : Int) - 1 = (L.length : Int) := by omega
                  clear hown' hgrow hat hO3 x0 x1 x2 x3 x4 x5 hnw h63 hby hbase hc8s
                  go_wp2_with fail
                  clear E4 e5
                  go_loopw [13] (fun i wr => ∃ (m : Nat), q + 1 ≤ m ∧ m ≤ L.length ∧ i = .int .i64 m ∧ Hid (wr.ownsRow W1.heap.size 71 6 (.slice (some ⟨g', 0, none⟩) (L.length + 1) cap') (L.length + 1) (pfs (shL (L.map (mkM g wd a b)) x m))) ∧ Hid (wr.heap[c8]? = some (.cells #[.int .i64 x.ax, .int .i64 x.k, .int .i64 (lowP x.k x.n).1, .int .i64 (lowP x.k x.n).2, .int .i64 (lowP x.g x.n).1, .int .i64 (lowP x.g x.n).2] 71 (0, 0))) ∧ Hid (Below W1.heap.size W1 wr)) (fun i _ => (intOf i).toNat)
                  case atStart => exact ⟨L.length, by omega, Nat.le_refl _, rfl, HO6, HP6, HB6⟩
                  case round =>
                    obtain ⟨m, hkm, hmL, rfl, hOm, hPm, hBm⟩ := hrel
                    have hMl := shL_len (L.map (mkM g wd a b)) x (i := m) (by rw [List.length_map]; exact hmL)
                    rw [List.length_map] at hMl
                    have hxf := fun j => World.ownsRow.frozenAt hOm.out j
                    have hgb' : W1.heap.size ≤ g' := (World.ownsRow.lt hOm.out g' rfl).1
                    by_cases hkm2 : q + 1 < m
                    · obtain ⟨p, hp, n1, n2, n3, n4, n5, n6, n7⟩ := loop_nums hkm2 hmL
                      have n4b : (q : Int) + 1 < (m : Int) := n4
                      clear n4
                      have hmk : p < (L.map (mkM g wd a b)).length := by rw [List.length_map]; exact n1
                      have hget := shL_get (L.map (mkM g wd a b)) x hmk
                      have hstep := shL_step (L.map (mkM g wd a b)) x hmk
                      rw [← hp] at hget hstep
                      rw [List.getElem?_eq_getElem hmk] at hget
                      obtain ⟨y, hy⟩ : ∃ y, (L.map (mkM g wd a b))[p] = y := ⟨_, rfl⟩
                      rw [hy] at hget hstep
                      obtain ⟨z, hz⟩ : ∃ z, (shL (L.map (mkM g wd a b)) x m)[m]? = some z := ⟨_, List.getElem?_eq_getElem (by rw [hMl]; exact n6)⟩
                      have y0 : wr.cell? ⟨g', p * 6, none⟩ = some (.int .i64 y.ax) := pf_cell hOm.out hget (j := 0) (by decide)
                      have y1 : wr.cell? ⟨g', p * 6 + 1, none⟩ = some (.int .i64 y.k) := pf_cell hOm.out hget (j := 1) (by decide)
                      have y2 : wr.cell? ⟨g', p * 6 + 2, none⟩ = some (.int .i64 (lowP y.k y.n).1) := pf_cell hOm.out hget (j := 2) (by decide)
                      have y3 : wr.cell? ⟨g', p * 6 + 3, none⟩ = some (.int .i64 (lowP y.k y.n).2) := pf_cell hOm.out hget (j := 3) (by decide)
                      have y4 : wr.cell? ⟨g', p * 6 + 4, none⟩ = some (.int .i64 (lowP y.g y.n).1) := pf_cell hOm.out hget (j := 4) (by decide)
                      have y5 : wr.cell? ⟨g', p * 6 + 5, none⟩ = some (.int .i64 (lowP y.g y.n).2) := pf_cell hOm.out hget (j := 5) (by decide)
                      have z0 : wr.cell? ⟨g', m * 6, none⟩ = some (.int .i64 z.ax) := pf_cell hOm.out hz (j := 0) (by decide)
                      have z1 : wr.cell? ⟨g', m * 6 + 1, none⟩ = some (.int .i64 z.k) := pf_cell hOm.out hz (j := 1) (by decide)
                      have z2 : wr.cell? ⟨g', m * 6 + 2, none⟩ = some (.int .i64 (lowP z.k z.n).1) := pf_cell hOm.out hz (j := 2) (by decide)
                      have z3 : wr.cell? ⟨g', m * 6 + 3, none⟩ = some (.int .i64 (lowP z.k z.n).2) := pf_cell hOm.out hz (j := 3) (by decide)
                      have z4 : wr.cell? ⟨g', m * 6 + 4, none⟩ = some (.int .i64 (lowP z.g z.n).1) := pf_cell hOm.out hz (j := 4) (by decide)
                      have z5 : wr.cell? ⟨g', m * 6 + 5, none⟩ = some (.int .i64 (lowP z.g z.n).2) := pf_cell hOm.out hz (j := 5) (by decide)
                      have HO7 := pf_stored hOm.out (i := m) (by rw [hMl]; exact n6) y
                      rw [hstep] at HO7
                      have HO7 := Lib.hid HO7
                      have HP7 := Lib.hid ((((((heap_other _ _ _ _ _ (Ne.symm HGC.out)).trans (heap_other _ _ _ _ _ (Ne.symm HGC.out))).trans (heap_other _ _ _ _ _ (Ne.symm HGC.out))).trans (heap_other _ _ _ _ _ (Ne.symm HGC.out))).trans (heap_other _ _ _ _ _ (Ne.symm HGC.out))).trans (heap_other _ _ _ _ _ (Ne.symm HGC.out)) |>.trans hPm.out : (((((((wr.setCell ⟨g', m * 6, none⟩ (.int .i64 y.ax)).setCell ⟨g', m * 6 + 1, none⟩ (.int .i64 y.k)).setCell ⟨g', m * 6 + 2, none⟩ (.int .i64 (lowP y.k y.n).1)).setCell ⟨g', m * 6 + 3, none⟩ (.int .i64 (lowP y.k y.n).2)).setCell ⟨g', m * 6 + 4, none⟩ (.int .i64 (lowP y.g y.n).1)).setCell ⟨g', m * 6 + 5, none⟩ (.int .i64 (lowP y.g y.n).2))).heap[c8]? = _)
                      have HB7 := Lib.hid ((((((hBm.out.setCell (p := ⟨g', m * 6, none⟩) hgb' (.int .i64 y.ax)).setCell (p := ⟨g', m * 6 + 1, none⟩) hgb' (.int .i64 y.k)).setCell (p := ⟨g', m * 6 + 2, none⟩) hgb' (.int .i64 (lowP y.k y.n).1)).setCell (p := ⟨g', m * 6 + 3, none⟩) hgb' (.int .i64 (lowP y.k y.n).2)).setCell (p := ⟨g', m * 6 + 4, none⟩) hgb' (.int .i64 (lowP y.g y.n).1)).setCell (p := ⟨g', m * 6 + 5, none⟩) hgb' (.int .i64 (lowP y.g y.n).2))
                      have E5 : wrap64 ((m : Int) - 1) = (p : Int) := by rw [n7]; exact w64 ⟨by omega, by have := Int.ofNat_le.2 (Nat.le_trans n3 HLL.out); omega⟩
                      have hms : (intOf (Value.int .i64 (p : Int))).toNat < (intOf (Value.int .i64 (m : Int))).toNat := by rw [hp]; exact meas_down p
                      clear hget hstep hy hz hmk hMl hgb' hp n7
                      go_wp2_with fail
                      try rw [E5]
                      exact ⟨⟨p, n2, n3, rfl, HO7, HP7, HB7⟩, hms⟩
                    · obtain rfl : m = q + 1 := Nat.le_antisymm (Nat.le_of_not_lt hkm2) hkm
                      have hMk : q + 1 < (shL (L.map (mkM g wd a b)) x (q + 1)).length := by rw [hMl]; exact Nat.lt_succ_of_le hmL
                      obtain ⟨z, hz⟩ : ∃ z, (shL (L.map (mkM g wd a b)) x (q + 1))[q + 1]? = some z := ⟨_, List.getElem?_eq_getElem hMk⟩
                      have z0 : wr.cell? ⟨g', (q + 1) * 6, none⟩ = some (.int .i64 z.ax) := pf_cell hOm.out hz (j := 0) (by decide)
                      have z1 : wr.cell? ⟨g', (q + 1) * 6 + 1, none⟩ = some (.int .i64 z.k) := pf_cell hOm.out hz (j := 1) (by decide)
                      have z2 : wr.cell? ⟨g', (q + 1) * 6 + 2, none⟩ = some (.int .i64 (lowP z.k z.n).1) := pf_cell hOm.out hz (j := 2) (by decide)
                      have z3 : wr.cell? ⟨g', (q + 1) * 6 + 3, none⟩ = some (.int .i64 (lowP z.k z.n).2) := pf_cell hOm.out hz (j := 3) (by decide)
                      have z4 : wr.cell? ⟨g', (q + 1) * 6 + 4, none⟩ = some (.int .i64 (lowP z.g z.n).1) := pf_cell hOm.out hz (j := 4) (by decide)
                      have z5 : wr.cell? ⟨g', (q + 1) * 6 + 5, none⟩ = some (.int .i64 (lowP z.g z.n).2) := pf_cell hOm.out hz (j := 5) (by decide)
                      have x0 := cellH hPm.out 0
                      have x1 := cellH hPm.out 1
                      have x2 := cellH hPm.out 2
                      have x3 := cellH hPm.out 3
                      have x4 := cellH hPm.out 4
                      have x5 := cellH hPm.out 5
                      simp at x0 x1 x2 x3 x4 x5
                      have hend := shL_end (L.map (mkM g wd a b)) x (k := q + 1) (by rw [List.length_map]; exact hmL)
                      have HO7 : ((((((wr.setCell ⟨g', (q + 1) * 6, none⟩ (.int .i64 x.ax)).setCell ⟨g', (q + 1) * 6 + 1, none⟩ (.int .i64 x.k)).setCell ⟨g', (q + 1) * 6 + 2, none⟩ (.int .i64 (lowP x.k x.n).1)).setCell ⟨g', (q + 1) * 6 + 3, none⟩ (.int .i64 (lowP x.k x.n).2)).setCell ⟨g', (q + 1) * 6 + 4, none⟩ (.int .i64 (lowP x.g x.n).1)).setCell ⟨g', (q + 1) * 6 + 5, none⟩ (.int .i64 (lowP x.g x.n).2)).ownsRow W1.heap.size 71 6 (.slice (some ⟨g', 0, none⟩) (L.length + 1) cap') (L.length + 1) (pfs ((shL (L.map (mkM g wd a b)) x (q + 1)).set (q + 1) x)) := pf_stored hOm.out (i := q + 1) hMk x
                      rw [hend] at HO7
                      have HOF : Hid (((((((wr.setCell ⟨g', (q + 1) * 6, none⟩ (.int .i64 x.ax)).setCell ⟨g', (q + 1) * 6 + 1, none⟩ (.int .i64 x.k)).setCell ⟨g', (q + 1) * 6 + 2, none⟩ (.int .i64 (lowP x.k x.n).1)).setCell ⟨g', (q + 1) * 6 + 3, none⟩ (.int .i64 (lowP x.k x.n).2)).setCell ⟨g', (q + 1) * 6 + 4, none⟩ (.int .i64 (lowP x.g x.n).1)).setCell ⟨g', (q + 1) * 6 + 5, none⟩ (.int .i64 (lowP x.g x.n).2)).ownsRow W1.heap.size 71 6 (.slice (some ⟨g', 0, none⟩) (L.length + 1) cap') (L.take (q + 1) ++ (j, s) :: L.drop (q + 1)).length (pfs ((L.take (q + 1) ++ (j, s) :: L.drop (q + 1)).map (mkM g wd a b)))) := Lib.hid (by
                        rw [ins_len L (j, s) hmL, List.map_append, List.map_cons, List.map_take, List.map_drop, HX.out]; exact HO7)
                      have HB7 := Lib.hid ((((((hBm.out.setCell (p := ⟨g', (q + 1) * 6, none⟩) hgb' (.int .i64 x.ax)).setCell (p := ⟨g', (q + 1) * 6 + 1, none⟩) hgb' (.int .i64 x.k)).setCell (p := ⟨g', (q + 1) * 6 + 2, none⟩) hgb' (.int .i64 (lowP x.k x.n).1)).setCell (p := ⟨g', (q + 1) * 6 + 3, none⟩) hgb' (.int .i64 (lowP x.k x.n).2)).setCell (p := ⟨g', (q + 1) * 6 + 4, none⟩) hgb' (.int .i64 (lowP x.g x.n).1)).setCell (p := ⟨g', (q + 1) * 6 + 5, none⟩) hgb' (.int .i64 (lowP x.g x.n).2))
                      have HS2 := Lib.hid (hS.out.put HC.out hmL hK.out (.inr ⟨hql, HQ.out⟩))
                      clear hz hend hMl hgb' HO7
                      go_wp2_with fail
                      go_roundw
                      case rel => exact ⟨L.take (q + 1) ++ (j, s) :: L.drop (q + 1), s + 1, Nat.le_add_left _ _, Nat.succ_le_succ hs48, by go_num, HS2, HB7, HOF⟩
                      case measure => first | (simp [intOf]; done) | (simp [intOf]; omega)
          · refine (HPN.out j s _ hc).mono ?_
            rintro e w2 ⟨rfl, hb⟩
            unfold pfZ
            have HB2 := Lib.hid (hB.out.trans (hb.mono hB.out.size))
            have HO2 := Lib.hid (own_below hO.out hb)
            have HS2 := Lib.hid (hS.out.skip hc)
            clear hb p0 p1 p2 p3 p4 p5 p6
            go_wp2_with fail
            go_roundw
            case rel => exact ⟨L, s + 1, by omega, by omega, by go_num, HS2, Lib.hid (HB2.out.alloc HB2.out.size _), Lib.hid (HO2.out.alloc _)⟩
            case measure => simp [intOf]; omega
        · obtain rfl : s = 49 := by omega
          have HS2 := Lib.hid (hS.out.next hx48 hy48)
          go_wp2_with fail
          go_roundw
          case rel => exact ⟨L, j + 1, by omega, by go_num, HS2, hB, hO⟩
          case measure => simp [intOf]; omega
    · obtain rfl : j = 2 := by omega
      have HFIN := Lib.hid hS.out.done
      go_wp2_with fail
      go_ret
      refine ⟨_, rfl, HB0.out.trans (hB.out.mono HB0.out.size), ?_⟩
      rw [HEND.out, List.length_map, ← HFIN.out]
      exact own_base hO.out HB0.out.size
end Go.Proofs.Ytnacgogcbbpjmaa
