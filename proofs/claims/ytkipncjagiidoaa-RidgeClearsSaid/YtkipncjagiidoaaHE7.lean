/- The reference's Needed and Tall. -/
import Derived.Test.YtkipncjagiidoaaHE5
import Derived.Test.YtkipncjagiidoaaHT6
set_option linter.unusedVariables false
set_option linter.unusedSimpArgs false
namespace Go.Proofs.Ytkipncjagiidoaa
open Go Go.RowKit

theorem fold_ge {l : List Int} {a : Int} : a ≤ l.foldl max a := ((fold_max_le (l := l) (a := a) (r := l.foldl max a)).1 (Int.le_refl _)).1
theorem low_bd {x : Mt} (h : 1 ≤ x.k ∧ x.k < x.n ∧ x.n ≤ 48 ∧ -1000000 ≤ x.g ∧ x.g ≤ 1000000) : (1 ≤ (lowP x.k x.n).1 ∧ (lowP x.k x.n).1 ≤ 48) ∧ (1 ≤ (lowP x.k x.n).2 ∧ (lowP x.k x.n).2 ≤ 48) ∧ (-1000000 ≤ (lowP x.g x.n).1 ∧ (lowP x.g x.n).1 ≤ 1000000) ∧ (1 ≤ (lowP x.g x.n).2 ∧ (lowP x.g x.n).2 ≤ 48) ∧ 0 ≤ (lowP x.k x.n).2 - (lowP x.k x.n).1 := by
  obtain ⟨c, hc, k1, k2, k3, k4⟩ := low_parts (k := x.k) (n := x.n) (by omega)
  obtain ⟨d, hd, g1, g2, g3, g4⟩ := low_parts (k := x.g) (n := x.n) (by omega)
  obtain ⟨a, ha⟩ : ∃ a, (lowP x.k x.n).1 = a := ⟨_, rfl⟩
  obtain ⟨b, hb⟩ : ∃ a, (lowP x.k x.n).2 = a := ⟨_, rfl⟩
  obtain ⟨e, he⟩ : ∃ a, (lowP x.g x.n).1 = a := ⟨_, rfl⟩
  obtain ⟨f, hf⟩ : ∃ a, (lowP x.g x.n).2 = a := ⟨_, rfl⟩
  rw [ha] at k1 ⊢
  rw [hb] at k2 k3 k4 ⊢
  rw [he] at g1 ⊢
  rw [hf] at g2 g3 g4 ⊢
  have ha1 : 1 ≤ a := by
    rcases Int.lt_or_le 0 a with h1 | h1
    · omega
    · have := Int.mul_le_mul_of_nonneg_left h1 (show 0 ≤ c by omega)
      rw [Int.mul_zero] at this; omega
  have hab : a ≤ b := by
    rcases Int.lt_or_le b a with h1 | h1
    · have := Int.mul_le_mul_of_nonneg_left (show b ≤ a by omega) (show 0 ≤ c by omega)
      omega
    · exact h1
  have he1 : -1000000 ≤ e ∧ e ≤ 1000000 := by
    rcases Int.le_total 0 e with h1 | h1
    · have := Int.mul_le_mul_of_nonneg_right (show 1 ≤ d by omega) h1
      omega
    · have := Int.mul_le_mul_of_nonneg_right (show 1 ≤ d by omega) (show 0 ≤ -e by omega)
      have e2 : d * -e = -(d * e) := Int.mul_neg _ _
      omega
  omega
set_option maxRecDepth 100000 in
set_option maxHeartbeats 8000000 in
theorem rNeeded_any (wd hg : Int) (o : Value) (g : List Int) (a b : Pl) (up : Int) (w : World) (hv : INRow w o g) (hl : g.length ≤ 9223372036854775807) :
    Calls Try.prog 34 #[mpV wd hg o, plV a, .int .i64 up, plV b] w fun e w' => e = .returned (.tuple #[.int .i64 (if vlB wd hg g a b [up] = true then ndI g wd a up b else 0), .int .i64 (lnE wd hg g a b [up])]) ∧ Below w.heap.size w w' := by
  have HS := Lib.hid (fun w' (h : Below w.heap.size w w') => by have h2 := rsight_any wd hg o g a b up 0 w' (hv.keep h) hl; rw [(ln_zero wd hg g a b up).1] at h2; exact h2)
  obtain ⟨W1, hW1, hb0, hs1, hrd⟩ := three_reads w wd hg o a b
  have HW1 := Lib.hid hW1; have HB0 := Lib.hid hb0; have HRD := Lib.hid hrd
  have HV := Lib.hid hv
  clear hW1 hb0 hrd hv
  have ead : w.heap.size + 1 + 1 = w.heap.size + 2 := rfl
  cases q1 : vlB wd hg g a b [up]
  · have HN : Hid (lnE wd hg g a b [up] = 1) := Lib.hid (by unfold lnE; rw [q1]; rfl)
    rw [HN.out] at HS
    rw [HN.out, if_neg (by decide)]
    unfold mpV plV at HS
    unfold mpV plV
    clear q1
    go_enter Try.func34, Try.ntmps34
    go_wp2_with fail
    rw [← HW1.out]
    obtain ⟨p0, p1, p2, p3, p4, p5, p6⟩ := HRD.out W1 (Below.refl _ _)
    go_wp2_with fail
    refine (HS.out _ HB0.out).mono ?_
    rintro e w2 ⟨rfl, hb2⟩
    have HB2 := Lib.hid (HB0.out.trans (hb2.mono HB0.out.size))
    clear hb2 p0 p1 p2 p3 p4 p5 p6
    go_wp2_with fail
    go_ret2
    exact ⟨rfl, HB2.out⟩
  have HN : Hid (lnE wd hg g a b [up] = 0) := Lib.hid (by unfold lnE; rw [q1]; rfl)
  rw [HN.out] at HS
  rw [HN.out, if_pos rfl]
  obtain ⟨hm, ha, hb, hu⟩ := vlB_ok q1
  have hup := hu up (by simp)
  have HLI := Lib.hid (fun w' (h : Below w.heap.size w w') => rline_any wd hg o g a b w' (HV.out.keep h) hm ha hb)
  obtain ⟨x1, x2, x3, x4⟩ := on_idx hm ha
  obtain ⟨y1, y2, y3, y4⟩ := on_idx hm hb
  have HCA := Lib.hid (fun w' (h : Below w.heap.size w w') => rat_any wd hg o g a w' (HV.out.keep h) (by omega) ⟨x2, x3⟩ (by omega))
  have HCB := Lib.hid (fun w' (h : Below w.heap.size w w') => rat_any wd hg o g b w' (HV.out.keep h) (by omega) ⟨y2, y3⟩ (by omega))
  have hA := hAt_bd hm ha
  have hB := hAt_bd hm hb
  have hlen : (mts g wd a b).length ≤ 96 := mts_len hm ha hb
  have HMB := Lib.hid (fun i (hi : i < (mts g wd a b).length) => (mts_bd hm ha hb (x := (mts g wd a b)[i]) (List.getElem_mem hi)).2)
  have HND : Hid (ndI g wd a up b = ((mts g wd a b).map (liftI (hAt g wd a + up) (hAt g wd b))).foldl max 0) := Lib.hid rfl
  obtain ⟨hq, hqe⟩ : ∃ x, hAt g wd a = x := ⟨_, rfl⟩
  obtain ⟨hr, hre⟩ : ∃ x, hAt g wd b = x := ⟨_, rfl⟩
  rw [hqe] at HCA hA HND
  rw [hre] at HCB hB HND
  unfold mpV plV at HS HLI HCA HCB
  unfold mpV plV
  obtain ⟨LI, hLI⟩ : ∃ l, (mts g wd a b).map (liftI (hq + up) hr) = l := ⟨_, rfl⟩
  rw [hLI] at HND
  have HLIF := Lib.hid hLI
  clear q1 hm ha hb hu x1 x2 x3 x4 y1 y2 y3 y4 hqe hre hLI
  go_enter Try.func34, Try.ntmps34
  go_wp2_with fail
  rw [← HW1.out]
  obtain ⟨p0, p1, p2, p3, p4, p5, p6⟩ := HRD.out W1 (Below.refl _ _)
  go_wp2_with fail
  refine (HS.out _ HB0.out).mono ?_
  rintro e w2 ⟨rfl, hb2⟩
  have HD2 := Lib.hid hb2
  have HB2 := Lib.hid (HB0.out.trans (hb2.mono HB0.out.size))
  clear hb2 p0 p1 p2 p3 p4 p5 p6
  obtain ⟨p0, p1, p2, p3, p4, p5, p6⟩ := HRD.out w2 HD2.out
  go_wp2_with fail
  refine (HLI.out _ HB2.out).mono ?_
  rintro e w3 ⟨v, rfl, hb3, ho⟩
  obtain ⟨va, vc, rfl, hpf⟩ := pf_form ho
  have HPF := Lib.hid hpf
  have HD3 := Lib.hid (HD2.out.trans (hb3.mono HD2.out.size))
  have HB3 := Lib.hid (HB2.out.trans (hb3.mono HB2.out.size))
  obtain ⟨len, hle⟩ : ∃ n, (mts g wd a b).length = n := ⟨_, rfl⟩
  rw [hle] at hlen ⊢
  have HLE := Lib.hid hle
  clear hb3 ho hpf p0 p1 p2 p3 p4 p5 p6 hle
  go_wp2_with fail
  go_loopw [12, 13] (fun y i wr => ∃ (k : Nat) (z : Int), k ≤ len ∧ y = .int .i64 z ∧ i = .int .i64 k ∧ Hid (z = (LI.take k).foldl max 0) ∧ Hid (Below w3.heap.size w3 wr)) (fun _ i _ => len - (intOf i).toNat)
  case atStart => exact ⟨0, 0, Nat.zero_le _, rfl, rfl, Lib.hid rfl, Lib.hid (Below.refl _ _)⟩
  case round =>
    obtain ⟨k, z, hk, rfl, rfl, hZ, hBk⟩ := hrel
    by_cases hkl : k < len
    · obtain ⟨gb, rfl, hgb, hcell⟩ := HPF.out k (by rw [HLE.out]; exact hkl)
      have hkm : k < (mts g wd a b).length := by rw [HLE.out]; exact hkl
      have hmb := HMB.out k hkm
      have hLIk : LI.getD k 0 = liftI (hq + up) hr (mts g wd a b)[k] := by
        rw [← HLIF.out, List.getD_eq_getElem?_getD, List.getElem?_map, List.getElem?_eq_getElem hkm]; rfl
      obtain ⟨x, hx⟩ : ∃ x, (mts g wd a b)[k] = x := ⟨_, rfl⟩
      rw [hx] at hcell hmb hLIk
      obtain ⟨⟨l1, l2⟩, ⟨l3, l4⟩, ⟨l5, l6⟩, ⟨l7, l8⟩, l9⟩ := low_bd hmb
      have hz0 : 0 ≤ z := by rw [hZ.out]; exact fold_ge
      have HD1 : 1 ≤ (lowP x.k x.n).1 * (lowP x.g x.n).2 := by have := Int.mul_le_mul l1 l7 (by omega) (by omega); omega
      have HMX : Hid (max z (ceilP (lackP x (hq + up) hr) ((lowP x.k x.n).1 * (lowP x.g x.n).2)) = (LI.take (k + 1)).foldl max 0) := Lib.hid (by
        rw [foldl_take 0 (by rw [← HLIF.out, List.length_map]; exact hkm), hLIk, ceil_lift hmb.1 (by omega) HD1, ← hZ.out]; omega)
      have HLK : Hid (lackP x (hq + up) hr = (lowP x.g x.n).1 * (lowP x.k x.n).2 - ((hq + up) * ((lowP x.k x.n).2 - (lowP x.k x.n).1) + hr * (lowP x.k x.n).1) * (lowP x.g x.n).2) := Lib.hid rfl
      obtain ⟨An, hAn⟩ : ∃ y, (lowP x.k x.n).1 = y := ⟨_, rfl⟩
      obtain ⟨Ad, hAd⟩ : ∃ y, (lowP x.k x.n).2 = y := ⟨_, rfl⟩
      obtain ⟨Gn, hGn⟩ : ∃ y, (lowP x.g x.n).1 = y := ⟨_, rfl⟩
      obtain ⟨Gd, hGd⟩ : ∃ y, (lowP x.g x.n).2 = y := ⟨_, rfl⟩
      obtain ⟨lk, hlk⟩ : ∃ y, lackP x (hq + up) hr = y := ⟨_, rfl⟩
      have c0 : w3.cell? ⟨gb, k * 6, none⟩ = some (.int .i64 x.ax) := hcell 0 (by decide)
      have c1 : w3.cell? ⟨gb, k * 6 + 1, none⟩ = some (.int .i64 x.k) := hcell 1 (by decide)
      have c2 : w3.cell? ⟨gb, k * 6 + 2, none⟩ = some (.int .i64 (lowP x.k x.n).1) := hcell 2 (by decide)
      have c3 : w3.cell? ⟨gb, k * 6 + 3, none⟩ = some (.int .i64 (lowP x.k x.n).2) := hcell 3 (by decide)
      have c4 : w3.cell? ⟨gb, k * 6 + 4, none⟩ = some (.int .i64 (lowP x.g x.n).1) := hcell 4 (by decide)
      have c5 : w3.cell? ⟨gb, k * 6 + 5, none⟩ = some (.int .i64 (lowP x.g x.n).2) := hcell 5 (by decide)
      rw [hAn] at l1 l2 l9 HD1 HMX HLK c2
      rw [hAd] at l3 l4 l9 HLK c3
      rw [hGn] at l5 l6 HLK c4
      rw [hGd] at l7 l8 HD1 HMX HLK c5
      rw [hlk] at HMX HLK
      have b1 := (hBk.out.cell (p := ⟨gb, _, none⟩) hgb).trans c0
      have b2 := (hBk.out.cell (p := ⟨gb, _, none⟩) hgb).trans c1
      have b3 := (hBk.out.cell (p := ⟨gb, _, none⟩) hgb).trans c2
      have b4 := (hBk.out.cell (p := ⟨gb, _, none⟩) hgb).trans c3
      have b5 := (hBk.out.cell (p := ⟨gb, _, none⟩) hgb).trans c4
      have b6 := (hBk.out.cell (p := ⟨gb, _, none⟩) hgb).trans c5
      have HDr := Lib.hid (HD3.out.trans (hBk.out.mono HD3.out.size))
      have HBr := Lib.hid (HB3.out.trans (hBk.out.mono HB3.out.size))
      have HZR : Hid ((wr.alloc (.cells #[.int .i64 x.ax, .int .i64 x.k, .int .i64 An, .int .i64 Ad, .int .i64 Gn, .int .i64 Gd] 54)).heap[wr.heap.size]? = some (.cells #[.int .i64 x.ax, .int .i64 x.k, .int .i64 An, .int .i64 Ad, .int .i64 Gn, .int .i64 Gd] 54 (0, 0))) := Lib.hid (heap_alloc_new _ _)
      have HZB := Lib.hid (hBk.out.alloc hBk.out.size (.cells #[.int .i64 x.ax, .int .i64 x.k, .int .i64 An, .int .i64 Ad, .int .i64 Gn, .int .i64 Gd] 54))
      obtain ⟨Z, hZe⟩ : ∃ Z, wr.alloc (.cells #[.int .i64 x.ax, .int .i64 x.k, .int .i64 An, .int .i64 Ad, .int .i64 Gn, .int .i64 Gd] 54) = Z := ⟨_, rfl⟩
      rw [hZe] at HZR HZB
      have HZ := Lib.hid hZe
      have hki : (k : Int) < len := by omega
      have hk0 : (0 : Int) ≤ k := by omega
      have hkb : (k : Int) ≤ 96 := by omega
      -- the numbers' bounds
      have u1 : 0 ≤ (hq + up) * (Ad - An) := Int.mul_nonneg (by omega) l9
      have u2 : (hq + up) * (Ad - An) ≤ 4200 * 48 := Int.mul_le_mul (by omega) (by omega) l9 (by omega)
      have u3 : 0 ≤ hr * An := Int.mul_nonneg hB.1 (by omega)
      have u4 : hr * An ≤ 4200 * 48 := Int.mul_le_mul (by omega) l2 (by omega) (by omega)
      have u5 : 0 ≤ ((hq + up) * (Ad - An) + hr * An) * Gd := Int.mul_nonneg (by omega) (by omega)
      have u6 : ((hq + up) * (Ad - An) + hr * An) * Gd ≤ 403200 * 48 := Int.mul_le_mul (by omega) l8 (by omega) (by omega)
      have u7 : -1000000 * 48 ≤ Gn * Ad ∧ Gn * Ad ≤ 1000000 * 48 := by
        rcases Int.le_total 0 Gn with h1 | h1
        · have v1 := Int.mul_nonneg h1 (show 0 ≤ Ad by omega)
          have v2 : Gn * Ad ≤ 1000000 * 48 := Int.mul_le_mul l6 l4 (by omega) (by omega)
          omega
        · have v1 := Int.mul_nonneg (show 0 ≤ -Gn by omega) (show 0 ≤ Ad by omega)
          have v2 : -Gn * Ad ≤ 1000000 * 48 := Int.mul_le_mul (by omega) l4 (by omega) (by omega)
          rw [Int.neg_mul] at v1 v2
          omega
      have u8 : An * Gd ≤ 48 * 48 := Int.mul_le_mul l2 l8 (by omega) (by omega)
      have HF : Hid (IntKind.i64.wrap (Gn * Ad) = Gn * Ad ∧ IntKind.i64.wrap (hq + up) = hq + up ∧ IntKind.i64.wrap (Ad - An) = Ad - An ∧ IntKind.i64.wrap ((hq + up) * (Ad - An)) = (hq + up) * (Ad - An) ∧ IntKind.i64.wrap (hr * An) = hr * An ∧ IntKind.i64.wrap ((hq + up) * (Ad - An) + hr * An) = (hq + up) * (Ad - An) + hr * An ∧ IntKind.i64.wrap (((hq + up) * (Ad - An) + hr * An) * Gd) = ((hq + up) * (Ad - An) + hr * An) * Gd ∧ IntKind.i64.wrap (Gn * Ad - ((hq + up) * (Ad - An) + hr * An) * Gd) = lk ∧ wrap64 (An * Gd) = An * Gd ∧ wrap64 ((k : Int) + 1) = k + 1) := Lib.hid
        ⟨IntWalk.i64_in _ (by omega), IntWalk.i64_in _ (by omega), IntWalk.i64_in _ (by omega), IntWalk.i64_in _ (by omega), IntWalk.i64_in _ (by omega), IntWalk.i64_in _ (by omega), IntWalk.i64_in _ (by omega), by rw [HLK.out]; exact IntWalk.i64_in _ (by omega), w64 (by omega), w64 (by omega)⟩
      have HCE := Lib.hid (fun w' => rceil_any lk (An * Gd) w' (by have := HLK.out; omega) (by omega))
      have KA : Hid (∀ W w', Below w.heap.size w W → Below W.heap.size W w' → Calls Try.prog 49 #[.agg #[.int .i64 wd, .int .i64 hg, o], .agg #[.int .i64 a.1, .int .i64 a.2]] w' fun e w'' => e = .returned (.int .i64 hq) ∧ Below W.heap.size W w'') := Lib.hid (fun W w' h0 h => (HCA.out w' (h0.trans (h.mono h0.size))).mono fun e w'' ⟨he, hh⟩ => ⟨he, h.trans (hh.mono h.size)⟩)
      have KB : Hid (∀ W w', Below w.heap.size w W → Below W.heap.size W w' → Calls Try.prog 49 #[.agg #[.int .i64 wd, .int .i64 hg, o], .agg #[.int .i64 b.1, .int .i64 b.2]] w' fun e w'' => e = .returned (.int .i64 hr) ∧ Below W.heap.size W w'') := Lib.hid (fun W w' h0 h => (HCB.out w' (h0.trans (h.mono h0.size))).mono fun e w'' ⟨he, hh⟩ => ⟨he, h.trans (hh.mono h.size)⟩)
      clear hZe c0 c1 c2 c3 c4 c5 hcell hmb hLIk hx hkm hgb l1 l2 l3 l4 l5 l6 l7 l8 l9 u1 u2 u3 u4 u5 u6 u7 u8 hz0 HD1 hAn hAd hGn hGd hlk
      go_wp2_with fail
      rw [HZ.out]
      obtain ⟨c8, hc8⟩ : ∃ n, wr.heap.size = n := ⟨_, rfl⟩
      rw [hc8] at HZR ⊢
      have HC8 := Lib.hid hc8
      have HDz := Lib.hid (HD3.out.trans (HZB.out.mono HD3.out.size))
      have HBz := Lib.hid (HB3.out.trans (HZB.out.mono HB3.out.size))
      clear hc8 b1 b2 b3 b4 b5 b6
      have KZ : Hid (∀ W', Below Z.heap.size Z W' → W'.cell? ⟨c8, 0, none⟩ = some (.int .i64 x.ax) ∧ W'.cell? ⟨c8, 1, none⟩ = some (.int .i64 x.k) ∧ W'.cell? ⟨c8, 2, none⟩ = some (.int .i64 An) ∧ W'.cell? ⟨c8, 3, none⟩ = some (.int .i64 Ad) ∧ W'.cell? ⟨c8, 4, none⟩ = some (.int .i64 Gn) ∧ W'.cell? ⟨c8, 5, none⟩ = some (.int .i64 Gd)) := Lib.hid (fun W' h => by
        have m := (h.block _ (Array.getElem?_eq_some_iff.1 HZR.out).1).trans HZR.out
        exact ⟨cellH m 0, cellH m 1, cellH m 2, cellH m 3, cellH m 4, cellH m 5⟩)
      obtain ⟨F1, F2, F3, F4, F5, F6, F7, F8, F9, F10⟩ := HF.out
      clear F9 F10
      refine wp_region_turn 33 (fun _ w' => Below Z.heap.size Z w') (by kernel_rfl) (by kernel_rfl) ((Below.refl _ Z).drew) ?_
      simp only [List.take_succ_cons, List.take_zero, List.drop_succ_cons, List.drop_zero]
      iterate 6
        (apply turnC_step (by rfl); (intro w' hw'; obtain ⟨x0, x1, x2, x3, x4, x5⟩ := KZ.out w' hw'; obtain ⟨p0, p1, p2, p3, p4, p5, p6⟩ := HRD.out w' (HDz.out.trans (hw'.mono HDz.out.size)); go_simp; first | exact ⟨hw', rfl⟩ | exact rfl))
        simp only [Act.put, List.setIfInBounds_toArray, List.set_cons_succ, List.set_cons_zero]
      (apply turnC_step (by rfl); (intro w' hw'; go_simp; first | exact congrArg (Value.int .i64) F1 | exact rfl))
      simp only [Act.put, List.setIfInBounds_toArray, List.set_cons_succ, List.set_cons_zero]
      iterate 2
        (apply turnC_step (by rfl); (intro w' hw'; obtain ⟨x0, x1, x2, x3, x4, x5⟩ := KZ.out w' hw'; obtain ⟨p0, p1, p2, p3, p4, p5, p6⟩ := HRD.out w' (HDz.out.trans (hw'.mono HDz.out.size)); go_simp; first | exact ⟨hw', rfl⟩ | exact rfl))
        simp only [Act.put, List.setIfInBounds_toArray, List.set_cons_succ, List.set_cons_zero]
      (apply turnC_step (by rfl); (intro w' hw'; go_simp; exact KA.out Z w' HBz.out hw'))
      simp only [Act.put, List.setIfInBounds_toArray, List.set_cons_succ, List.set_cons_zero]
      iterate 1
        (apply turnC_step (by rfl); (intro w' hw'; obtain ⟨x0, x1, x2, x3, x4, x5⟩ := KZ.out w' hw'; obtain ⟨p0, p1, p2, p3, p4, p5, p6⟩ := HRD.out w' (HDz.out.trans (hw'.mono HDz.out.size)); go_simp; first | exact ⟨hw', rfl⟩ | exact rfl))
        simp only [Act.put, List.setIfInBounds_toArray, List.set_cons_succ, List.set_cons_zero]
      (apply turnC_step (by rfl); (intro w' hw'; go_simp; first | exact congrArg (Value.int .i64) F2 | exact rfl))
      simp only [Act.put, List.setIfInBounds_toArray, List.set_cons_succ, List.set_cons_zero]
      iterate 6
        (apply turnC_step (by rfl); (intro w' hw'; obtain ⟨x0, x1, x2, x3, x4, x5⟩ := KZ.out w' hw'; obtain ⟨p0, p1, p2, p3, p4, p5, p6⟩ := HRD.out w' (HDz.out.trans (hw'.mono HDz.out.size)); go_simp; first | exact ⟨hw', rfl⟩ | exact rfl))
        simp only [Act.put, List.setIfInBounds_toArray, List.set_cons_succ, List.set_cons_zero]
      (apply turnC_step (by rfl); (intro w' hw'; go_simp; first | exact congrArg (Value.int .i64) F3 | exact rfl))
      simp only [Act.put, List.setIfInBounds_toArray, List.set_cons_succ, List.set_cons_zero]
      (apply turnC_step (by rfl); (intro w' hw'; go_simp; first | exact congrArg (Value.int .i64) F4 | exact rfl))
      simp only [Act.put, List.setIfInBounds_toArray, List.set_cons_succ, List.set_cons_zero]
      iterate 2
        (apply turnC_step (by rfl); (intro w' hw'; obtain ⟨x0, x1, x2, x3, x4, x5⟩ := KZ.out w' hw'; obtain ⟨p0, p1, p2, p3, p4, p5, p6⟩ := HRD.out w' (HDz.out.trans (hw'.mono HDz.out.size)); go_simp; first | exact ⟨hw', rfl⟩ | exact rfl))
        simp only [Act.put, List.setIfInBounds_toArray, List.set_cons_succ, List.set_cons_zero]
      (apply turnC_step (by rfl); (intro w' hw'; go_simp; exact KB.out Z w' HBz.out hw'))
      simp only [Act.put, List.setIfInBounds_toArray, List.set_cons_succ, List.set_cons_zero]
      iterate 3
        (apply turnC_step (by rfl); (intro w' hw'; obtain ⟨x0, x1, x2, x3, x4, x5⟩ := KZ.out w' hw'; obtain ⟨p0, p1, p2, p3, p4, p5, p6⟩ := HRD.out w' (HDz.out.trans (hw'.mono HDz.out.size)); go_simp; first | exact ⟨hw', rfl⟩ | exact rfl))
        simp only [Act.put, List.setIfInBounds_toArray, List.set_cons_succ, List.set_cons_zero]
      (apply turnC_step (by rfl); (intro w' hw'; go_simp; first | exact congrArg (Value.int .i64) F5 | exact rfl))
      simp only [Act.put, List.setIfInBounds_toArray, List.set_cons_succ, List.set_cons_zero]
      (apply turnC_step (by rfl); (intro w' hw'; go_simp; first | exact congrArg (Value.int .i64) F6 | exact rfl))
      simp only [Act.put, List.setIfInBounds_toArray, List.set_cons_succ, List.set_cons_zero]
      iterate 3
        (apply turnC_step (by rfl); (intro w' hw'; obtain ⟨x0, x1, x2, x3, x4, x5⟩ := KZ.out w' hw'; obtain ⟨p0, p1, p2, p3, p4, p5, p6⟩ := HRD.out w' (HDz.out.trans (hw'.mono HDz.out.size)); go_simp; first | exact ⟨hw', rfl⟩ | exact rfl))
        simp only [Act.put, List.setIfInBounds_toArray, List.set_cons_succ, List.set_cons_zero]
      (apply turnC_step (by rfl); (intro w' hw'; go_simp; first | exact congrArg (Value.int .i64) F7 | exact rfl))
      simp only [Act.put, List.setIfInBounds_toArray, List.set_cons_succ, List.set_cons_zero]
      (apply turnC_step (by rfl); (intro w' hw'; go_simp; first | exact congrArg (Value.int .i64) F8 | exact rfl))
      simp only [Act.put, List.setIfInBounds_toArray, List.set_cons_succ, List.set_cons_zero]
      intro listed w7 _ hw7
      have HB7 := Lib.hid (HZB.out.trans (hw7.mono HZB.out.size))
      obtain ⟨x0, x1, x2, x3, x4, x5⟩ := KZ.out w7 hw7
      clear hw7 F1 F2 F3 F4 F5 F6 F7 F8
      have F9 := HF.out.2.2.2.2.2.2.2.2.1
      go_wp2_with fail
      refine (HCE.out _).mono ?_
      rintro e w8 ⟨rfl, rfl⟩
      clear F9
      have HMX2 : Hid (max z (if lk ≤ 0 then 0 else (lk + An * Gd - 1) / (An * Gd)) = (LI.take (k + 1)).foldl max 0) := HMX
      obtain ⟨ce, hce⟩ : ∃ y, (if lk ≤ 0 then 0 else (lk + An * Gd - 1) / (An * Gd)) = y := ⟨_, rfl⟩
      rw [hce] at HMX2 ⊢
      clear hce HMX x0 x1 x2 x3 x4 x5
      go_wp2_with fail
      go_roundw
      case rel => exact ⟨k + 1, max z ce, by omega, rfl, by go_num, HMX2, HB7⟩
      case measure => simp [intOf]; omega
    · obtain rfl : k = len := by omega
      have HFN : Hid (z = ndI g wd a up b) := Lib.hid (by rw [HND.out, hZ.out, List.take_of_length_le (by rw [← HLIF.out, List.length_map, HLE.out]; exact Nat.le_refl _)])
      have HBr := Lib.hid (HB3.out.trans (hBk.out.mono HB3.out.size))
      go_wp2_with fail
      go_ret2
      exact ⟨by rw [← HFN.out]; rfl, HBr.out⟩
end Go.Proofs.Ytkipncjagiidoaa
