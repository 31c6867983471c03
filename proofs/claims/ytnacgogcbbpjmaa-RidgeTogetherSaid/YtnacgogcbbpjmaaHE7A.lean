/- Bounds of lowest terms. -/
import Derived.Test.YtnacgogcbbpjmaaHE5
import Derived.Test.YtnacgogcbbpjmaaHT0
set_option linter.unusedVariables false
set_option linter.unusedSimpArgs false
namespace Go.Proofs.Ytnacgogcbbpjmaa
open Go Go.RowKit

theorem fold_ge {l : List Int} {a : Int} : a ≤ l.foldl max a := ((fold_max_le (l := l) (a := a) (r := l.foldl max a)).1 (Int.le_refl _)).1
theorem low_bd {x : Mt} (h : 1 ≤ x.k ∧ x.k < x.n ∧ x.n ≤ 48 ∧ -1000000 ≤ x.g ∧ x.g ≤ 1000000) : (1 ≤ (lowP x.k x.n).1 ∧ (lowP x.k x.n).1 ≤ 48) ∧ (1 ≤ (lowP x.k x.n).2 ∧ (lowP x.k x.n).2 ≤ 48) ∧ (-1000000 ≤ (lowP x.g x.n).1 ∧ (lowP x.g x.n).1 ≤ 1000000) ∧ (1 ≤ (lowP x.g x.n).2 ∧ (lowP x.g x.n).2 ≤ 48) ∧ 0 ≤ (lowP x.k x.n).2 - (lowP x.k x.n).1 := by
  obtain ⟨c, hc, k1, k2, k3, k4⟩ := low_parts (k := x.k) (n := x.n) (by omega)
  obtain ⟨d, hd, g1, g2, g3, g4⟩ := low_parts (k := x.g) (n := x.n) (by omega)
  obtain ⟨a, ha⟩ : ∃ a, (lowP x.k x.n).1 = a := ⟨_, rfl⟩
  obtain ⟨b, hb⟩ : ∃ a, (lowP x.k x.n).2 = a := ⟨_, rfl⟩
  obtain ⟨e, he⟩ : ∃ a, (lowP x.g x.n).1 = a := ⟨_, rfl⟩
  obtain ⟨f, hf⟩ : ∃ a, (lowP x.g x.n).2 = a := ⟨_, rfl⟩
  rw [ha] at k1 ⊢
  rw [hb] at k2 k3 k4 ⊢
  rw [he] at g1 ⊢
  rw [hf] at g2 g3 g4 ⊢
  have ha1 : 1 ≤ a := by
    rcases Int.lt_or_le 0 a with h1 | h1
    · omega
    · have := Int.mul_le_mul_of_nonneg_left h1 (show 0 ≤ c by omega)
      rw [Int.mul_zero] at this; omega
  have hab : a ≤ b := by
    rcases Int.lt_or_le b a with h1 | h1
    · have := Int.mul_le_mul_of_nonneg_left (show b ≤ a by omega) (show 0 ≤ c by omega)
      omega
    · exact h1
  have he1 : -1000000 ≤ e ∧ e ≤ 1000000 := by
    rcases Int.le_total 0 e with h1 | h1
    · have := Int.mul_le_mul_of_nonneg_right (show 1 ≤ d by omega) h1
      omega
    · have := Int.mul_le_mul_of_nonneg_right (show 1 ≤ d by omega) (show 0 ≤ -e by omega)
      have e2 : d * -e = -(d * e) := Int.mul_neg _ _
      omega
  omega
end Go.Proofs.Ytnacgogcbbpjmaa

/-! The reference's first: the first crossing at which the ground is higher than a line. -/
set_option linter.unusedVariables false
set_option linter.unusedSimpArgs false
namespace Go.Proofs.Ytnacgogcbbpjmaa
open Go Go.RowKit

theorem four_readsX (w : World) (wd hg : Int) (o : Value) (a b : Pl) : ∃ W1, W1 = (((w.alloc (.cells #[.int .i64 wd, .int .i64 hg, o] 24)).alloc (.cells #[.int .i64 a.1, .int .i64 a.2] 32)).alloc (.cells #[.int .i64 b.1, .int .i64 b.2] 32)).alloc (.cells #[.int .i64 0, .int .i64 0] 60) ∧ Below w.heap.size w W1 ∧ W1.heap.size = w.heap.size + 4 ∧
    ∀ W', Below W1.heap.size W1 W' → W'.cell? ⟨w.heap.size, 0, none⟩ = some (.int .i64 wd) ∧ W'.cell? ⟨w.heap.size, 1, none⟩ = some (.int .i64 hg) ∧ W'.cell? ⟨w.heap.size, 2, none⟩ = some o ∧ W'.cell? ⟨w.heap.size + 1, 0, none⟩ = some (.int .i64 a.1) ∧ W'.cell? ⟨w.heap.size + 1, 1, none⟩ = some (.int .i64 a.2) ∧
      W'.cell? ⟨w.heap.size + 2, 0, none⟩ = some (.int .i64 b.1) ∧ W'.cell? ⟨w.heap.size + 2, 1, none⟩ = some (.int .i64 b.2) ∧ W'.heap[w.heap.size + 3]? = some (.cells #[.int .i64 0, .int .i64 0] 60 (0, 0)) := by
  refine ⟨_, rfl, (((((Below.refl _ w).alloc (Nat.le_refl _) _).alloc (by simp) _).alloc (by simp; omega) _).alloc (by simp; omega) _), by simp, fun W' h => ?_⟩
  have hb : ∀ (j : Nat) (O : Option Obj), j < w.heap.size + 4 → ((((w.alloc (.cells #[.int .i64 wd, .int .i64 hg, o] 24)).alloc (.cells #[.int .i64 a.1, .int .i64 a.2] 32)).alloc (.cells #[.int .i64 b.1, .int .i64 b.2] 32)).alloc (.cells #[.int .i64 0, .int .i64 0] 60)).heap[j]? = O → W'.heap[j]? = O := fun j O hj e => (h.block j (by simp; omega)).trans e
  have m0 : W'.heap[w.heap.size]? = some (.cells #[.int .i64 wd, .int .i64 hg, o] 24 (0, 0)) := hb _ _ (by omega) (by
    repeat first
      | exact gAt _ _ _ (by first | omega | (simp only [World.size_alloc]; done) | (simp only [World.size_alloc]; omega))
      | rw [gNe _ _ _ (by first | omega | (simp only [World.size_alloc]; omega))])
  have m1 : W'.heap[w.heap.size + 1]? = some (.cells #[.int .i64 a.1, .int .i64 a.2] 32 (0, 0)) := hb _ _ (by omega) (by
    repeat first
      | exact gAt _ _ _ (by first | omega | (simp only [World.size_alloc]; done) | (simp only [World.size_alloc]; omega))
      | rw [gNe _ _ _ (by first | omega | (simp only [World.size_alloc]; omega))])
  have m2 : W'.heap[w.heap.size + 2]? = some (.cells #[.int .i64 b.1, .int .i64 b.2] 32 (0, 0)) := hb _ _ (by omega) (by
    repeat first
      | exact gAt _ _ _ (by first | omega | (simp only [World.size_alloc]; done) | (simp only [World.size_alloc]; omega))
      | rw [gNe _ _ _ (by first | omega | (simp only [World.size_alloc]; omega))])
  have m3 : W'.heap[w.heap.size + 3]? = some (.cells #[.int .i64 0, .int .i64 0] 60 (0, 0)) := hb _ _ (by omega) (by
    repeat first
      | exact gAt _ _ _ (by first | omega | (simp only [World.size_alloc]; done) | (simp only [World.size_alloc]; omega))
      | rw [gNe _ _ _ (by first | omega | (simp only [World.size_alloc]; omega))])
  exact ⟨cellH m0 0, cellH m0 1, cellH m0 2, cellH m1 0, cellH m1 1, cellH m2 0, cellH m2 1, m3⟩
theorem info_crs : (Try.prog.info? 60).map (·.size) = some 2 := by kernel_rfl
theorem first_head {α : Type} {l : List α} {p : α → Bool} {k : Nat} (h : ∀ j (hj : j < l.length), j < k → p l[j] = false) (hk : k < l.length) (hp : p l[k] = true) : (l.filter p).head? = some l[k] := by
  have e : l = l.take k ++ l[k] :: l.drop (k + 1) := by rw [← List.drop_eq_getElem_cons hk, List.take_append_drop]
  have ht : (l.take k).filter p = [] := by
    rw [List.filter_eq_nil_iff]
    intro x hx
    obtain ⟨j, hj, rfl⟩ := List.mem_iff_getElem.1 hx
    rw [List.length_take] at hj
    rw [List.getElem_take, h j (by omega) (by omega)]; decide
  conv => lhs; rw [e]
  rw [List.filter_append, ht, List.nil_append, List.filter_cons, if_pos hp]; rfl
theorem none_left {α : Type} {l : List α} {p : α → Bool} (h : ∀ j (hj : j < l.length), j < l.length → p l[j] = false) : l.filter p = [] := by
  rw [List.filter_eq_nil_iff]
  intro x hx
  obtain ⟨j, hj, rfl⟩ := List.mem_iff_getElem.1 hx
  rw [h j hj hj]; decide
/-- The wraps of over. -/
theorem over_fits {An Ad Gn Gd u v : Int} (ha : 1 ≤ An ∧ An ≤ 48) (hd : 1 ≤ Ad ∧ Ad ≤ 48) (hg : -1000000 ≤ Gn ∧ Gn ≤ 1000000) (hf : 1 ≤ Gd ∧ Gd ≤ 48) (h0 : 0 ≤ Ad - An) (hu : 0 ≤ u ∧ u ≤ 4200) (hv : 0 ≤ v ∧ v ≤ 4200) :
    IntKind.i64.wrap (Gn * Ad) = Gn * Ad ∧ IntKind.i64.wrap (Ad - An) = Ad - An ∧ IntKind.i64.wrap (u * (Ad - An)) = u * (Ad - An) ∧ IntKind.i64.wrap (v * An) = v * An ∧ IntKind.i64.wrap (u * (Ad - An) + v * An) = u * (Ad - An) + v * An ∧ IntKind.i64.wrap ((u * (Ad - An) + v * An) * Gd) = (u * (Ad - An) + v * An) * Gd := by
  have u1 : 0 ≤ u * (Ad - An) := Int.mul_nonneg hu.1 h0
  have u2 : u * (Ad - An) ≤ 4200 * 48 := Int.mul_le_mul hu.2 (by omega) h0 (by omega)
  have u3 : 0 ≤ v * An := Int.mul_nonneg hv.1 (by omega)
  have u4 : v * An ≤ 4200 * 48 := Int.mul_le_mul hv.2 ha.2 (by omega) (by omega)
  have u5 : 0 ≤ (u * (Ad - An) + v * An) * Gd := Int.mul_nonneg (by omega) (by omega)
  have u6 : (u * (Ad - An) + v * An) * Gd ≤ 403200 * 48 := Int.mul_le_mul (by omega) hf.2 (by omega) (by omega)
  have u7 : -1000000 * 48 ≤ Gn * Ad ∧ Gn * Ad ≤ 1000000 * 48 := by
    rcases Int.le_total 0 Gn with h1 | h1
    · have v1 := Int.mul_nonneg h1 (show 0 ≤ Ad by omega)
      have v2 : Gn * Ad ≤ 1000000 * 48 := Int.mul_le_mul hg.2 hd.2 (by omega) (by omega)
      omega
    · have v1 := Int.mul_nonneg (show 0 ≤ -Gn by omega) (show 0 ≤ Ad by omega)
      have v2 : -Gn * Ad ≤ 1000000 * 48 := Int.mul_le_mul (by omega) hd.2 (by omega) (by omega)
      rw [Int.neg_mul] at v1 v2
      omega
  exact ⟨IntWalk.i64_in _ (by omega), IntWalk.i64_in _ (by omega), IntWalk.i64_in _ (by omega), IntWalk.i64_in _ (by omega), IntWalk.i64_in _ (by omega), IntWalk.i64_in _ (by omega)⟩
theorem rover_at (x : Mt) (u v : Int) (w : World) (h : 1 ≤ x.k ∧ x.k < x.n ∧ x.n ≤ 48 ∧ -1000000 ≤ x.g ∧ x.g ≤ 1000000) (hu : 0 ≤ u ∧ u ≤ 4200) (hv : 0 ≤ v ∧ v ≤ 4200) :
    Calls Try.prog 101 #[.agg #[.int .i64 x.ax, .int .i64 x.k, .int .i64 (lowP x.k x.n).1, .int .i64 (lowP x.k x.n).2, .int .i64 (lowP x.g x.n).1, .int .i64 (lowP x.g x.n).2], .int .i64 u, .int .i64 v] w fun e w' => e = .returned (.bool (overB u v x)) ∧ Below w.heap.size w w' := by
  obtain ⟨b1, b2, b3, b4, b5⟩ := low_bd h
  obtain ⟨e1, e2, e3, e4, e5, e6⟩ := over_fits b1 b2 b3 b4 b5 hu hv
  refine (rover_any x.ax x.k _ _ _ _ u v w e1 e2 e3 e4 e5 e6).mono fun e w' ⟨he, hb⟩ => ⟨?_, hb⟩
  rw [he]
  unfold overB
  exact ret_bool' (decide_eq_decide.2 (over_iff (by omega)))
set_option maxRecDepth 100000 in
set_option maxHeartbeats 8000000 in
theorem rfirst_any (wd hg : Int) (o : Value) (g : List Int) (a b : Pl) (up rise : Int) (w : World) (hv : INRow w o g) (hm : vmB wd hg g = true) (ha : onB wd hg a = true) (hb : onB wd hg b = true) (hup : 0 ≤ up ∧ up ≤ 200) (hri : 0 ≤ rise ∧ rise ≤ 200) :
    Calls Try.prog 89 #[mpV wd hg o, plV a, .int .i64 up, plV b, .int .i64 rise] w fun e w' => e = .returned (match (blk g wd a b (hAt g wd a + up) (hAt g wd b + rise)).head? with
      | some c => .tuple #[.agg #[.int .i64 c.1, .int .i64 c.2], .bool true]
      | none => .tuple #[.agg #[.int .i64 0, .int .i64 0], .bool false]) ∧ Below w.heap.size w w' := by
  have HV := Lib.hid hv
  have HLI := Lib.hid (fun w' (h : Below w.heap.size w w') => rline_any wd hg o g a b w' (HV.out.keep h) hm ha hb)
  obtain ⟨x1, x2, x3, x4⟩ := on_idx hm ha
  obtain ⟨y1, y2, y3, y4⟩ := on_idx hm hb
  have HCA := Lib.hid (fun w' (h : Below w.heap.size w w') => rat_any wd hg o g a w' (HV.out.keep h) (by omega) ⟨x2, x3⟩ (by omega))
  have HCB := Lib.hid (fun w' (h : Below w.heap.size w w') => rat_any wd hg o g b w' (HV.out.keep h) (by omega) ⟨y2, y3⟩ (by omega))
  have hA := hAt_bd hm ha
  have hB := hAt_bd hm hb
  have hlen : (mts g wd a b).length ≤ 96 := mts_len hm ha hb
  have HMB := Lib.hid (fun i (hi : i < (mts g wd a b).length) => (mts_bd hm ha hb (x := (mts g wd a b)[i]) (List.getElem_mem hi)).2)
  have HBL : Hid (blk g wd a b (hAt g wd a + up) (hAt g wd b + rise) = ((mts g wd a b).filter (overB (hAt g wd a + up) (hAt g wd b + rise))).map crO) := Lib.hid rfl
  obtain ⟨hq, hqe⟩ : ∃ x, hAt g wd a = x := ⟨_, rfl⟩
  obtain ⟨hr, hre⟩ : ∃ x, hAt g wd b = x := ⟨_, rfl⟩
  rw [hqe] at HCA hA HBL ⊢
  rw [hre] at HCB hB HBL ⊢
  have HOV := Lib.hid (fun i (hi : i < (mts g wd a b).length) w' => rover_at (mts g wd a b)[i] (hq + up) (hr + rise) w' (HMB.out i hi) (by omega) (by omega))
  have HW : Hid (IntKind.i64.wrap (hq + up) = hq + up ∧ IntKind.i64.wrap (hr + rise) = hr + rise) := Lib.hid ⟨IntWalk.i64_in _ (by omega), IntWalk.i64_in _ (by omega)⟩
  unfold mpV plV at HLI HCA HCB
  unfold mpV plV
  obtain ⟨W1, hW1, hb0, hs1, hrd⟩ := four_readsX w wd hg o a b
  have HW1 := Lib.hid hW1; have HB0 := Lib.hid hb0; have HRD := Lib.hid hrd
  have ead : w.heap.size + 1 + 1 = w.heap.size + 2 := rfl
  have ead2 : w.heap.size + 2 + 1 = w.heap.size + 3 := rfl
  clear hW1 hb0 hrd hv hm ha hb x1 x2 x3 x4 y1 y2 y3 y4 hqe hre hA hB hup hri hs1
  obtain ⟨bl, hbl⟩ : ∃ l, blk g wd a b (hq + up) (hr + rise) = l := ⟨_, rfl⟩
  rw [hbl] at HBL ⊢
  clear hbl
  obtain ⟨R, hR⟩ : ∃ R, (match bl.head? with
      | some c => Value.tuple #[.agg #[.int .i64 c.1, .int .i64 c.2], .bool true]
      | none => .tuple #[.agg #[.int .i64 0, .int .i64 0], .bool false]) = R := ⟨_, rfl⟩
  rw [hR]
  have HRES := Lib.hid hR
  clear hR
  go_enter Try.func89, Try.ntmps89
  go_wp2_with fail
  rw [← HW1.out]
  refine (HLI.out _ HB0.out).mono ?_
  rintro e w3 ⟨v, rfl, hb3, ho⟩
  obtain ⟨va, vc, rfl, hpf⟩ := pf_form ho
  have HPF := Lib.hid hpf
  have HD3 := Lib.hid hb3
  have HB3 := Lib.hid (HB0.out.trans (hb3.mono HB0.out.size))
  obtain ⟨len, hle⟩ : ∃ n, (mts g wd a b).length = n := ⟨_, rfl⟩
  rw [hle] at hlen ⊢
  have HLE := Lib.hid hle
  clear hb3 ho hpf hle
  go_wp2_with fail
  go_loopw [13] (fun i wr => ∃ (k : Nat), k ≤ len ∧ i = .int .i64 k ∧ Hid (∀ j (hj : j < (mts g wd a b).length), j < k → overB (hq + up) (hr + rise) (mts g wd a b)[j] = false) ∧ Hid (Below w3.heap.size w3 wr)) (fun i _ => len - (intOf i).toNat)
  case atStart => exact ⟨0, Nat.zero_le _, rfl, Lib.hid (fun j hj h => absurd h (Nat.not_lt_zero _)), Lib.hid (Below.refl _ _)⟩
  case round =>
    obtain ⟨k, hk, rfl, hN, hBk⟩ := hrel
    have HDr := Lib.hid (HD3.out.trans (hBk.out.mono HD3.out.size))
    have HBr := Lib.hid (HB3.out.trans (hBk.out.mono HB3.out.size))
    by_cases hkl : k < len
    · obtain ⟨gb, rfl, hgb, hcell⟩ := HPF.out k (by rw [HLE.out]; exact hkl)
      have hkm : k < (mts g wd a b).length := by rw [HLE.out]; exact hkl
      have HO1 := Lib.hid (HOV.out k hkm)
      obtain ⟨x, hx⟩ : ∃ x, (mts g wd a b)[k] = x := ⟨_, rfl⟩
      rw [hx] at hcell HO1
      have HX := Lib.hid hx
      obtain ⟨cb, hcb⟩ : ∃ c, overB (hq + up) (hr + rise) x = c := ⟨_, rfl⟩
      rw [hcb] at HO1
      have HCBq := Lib.hid hcb
      have KZ : Hid (∀ W', Below wr.heap.size wr W' → W'.cell? ⟨gb, k * 6, none⟩ = some (.int .i64 x.ax) ∧ W'.cell? ⟨gb, k * 6 + 1, none⟩ = some (.int .i64 x.k) ∧ W'.cell? ⟨gb, k * 6 + 2, none⟩ = some (.int .i64 (lowP x.k x.n).1) ∧ W'.cell? ⟨gb, k * 6 + 3, none⟩ = some (.int .i64 (lowP x.k x.n).2) ∧ W'.cell? ⟨gb, k * 6 + 4, none⟩ = some (.int .i64 (lowP x.g x.n).1) ∧ W'.cell? ⟨gb, k * 6 + 5, none⟩ = some (.int .i64 (lowP x.g x.n).2)) := Lib.hid (fun W' h => by
        have hb2 := hBk.out.trans (h.mono hBk.out.size)
        exact ⟨(hb2.cell (p := ⟨gb, _, none⟩) hgb).trans (hcell 0 (by decide)), (hb2.cell (p := ⟨gb, _, none⟩) hgb).trans (hcell 1 (by decide)), (hb2.cell (p := ⟨gb, _, none⟩) hgb).trans (hcell 2 (by decide)), (hb2.cell (p := ⟨gb, _, none⟩) hgb).trans (hcell 3 (by decide)), (hb2.cell (p := ⟨gb, _, none⟩) hgb).trans (hcell 4 (by decide)), (hb2.cell (p := ⟨gb, _, none⟩) hgb).trans (hcell 5 (by decide))⟩)
      have KA : Hid (∀ w', Below wr.heap.size wr w' → Calls Try.prog 102 #[.agg #[.int .i64 wd, .int .i64 hg, o], .agg #[.int .i64 a.1, .int .i64 a.2]] w' fun e w'' => e = .returned (.int .i64 hq) ∧ Below wr.heap.size wr w'') := Lib.hid (fun w' h => (HCA.out w' (HBr.out.trans (h.mono HBr.out.size))).mono fun e w'' ⟨he, hh⟩ => ⟨he, h.trans (hh.mono h.size)⟩)
      have KB : Hid (∀ w', Below wr.heap.size wr w' → Calls Try.prog 102 #[.agg #[.int .i64 wd, .int .i64 hg, o], .agg #[.int .i64 b.1, .int .i64 b.2]] w' fun e w'' => e = .returned (.int .i64 hr) ∧ Below wr.heap.size wr w'') := Lib.hid (fun w' h => (HCB.out w' (HBr.out.trans (h.mono HBr.out.size))).mono fun e w'' ⟨he, hh⟩ => ⟨he, h.trans (hh.mono h.size)⟩)
      have KO : Hid (∀ w', Below wr.heap.size wr w' → Calls Try.prog 101 #[.agg #[.int .i64 x.ax, .int .i64 x.k, .int .i64 (lowP x.k x.n).1, .int .i64 (lowP x.k x.n).2, .int .i64 (lowP x.g x.n).1, .int .i64 (lowP x.g x.n).2], .int .i64 (hq + up), .int .i64 (hr + rise)] w' fun e w'' => e = .returned (.bool cb) ∧ Below wr.heap.size wr w'') := Lib.hid (fun w' h => (HO1.out w').mono fun e w'' ⟨he, hh⟩ => ⟨he, h.trans (hh.mono h.size)⟩)
      have hki : (k : Int) < len := by omega
      have hk0 : (0 : Int) ≤ k := by omega
      have hkb : (k : Int) ≤ 96 := by omega
      clear hcell hgb hx hcb
      go_wp2_with fail
      have F1 := HW.out.1
      have F2 := HW.out.2
      refine wp_region_turn 14 (fun _ w' => Below wr.heap.size wr w') (by kernel_rfl) (by kernel_rfl) ((Below.refl _ wr).drew) ?_
      simp only [List.take_succ_cons, List.take_zero, List.drop_succ_cons, List.drop_zero]
      iterate 6
        (apply turnC_step (by rfl); (intro w' hw'; obtain ⟨x0, x1, x2, x3, x4, x5⟩ := KZ.out w' hw'; obtain ⟨p0, p1, p2, p3, p4, p5, p6, p7⟩ := HRD.out w' (HDr.out.trans (hw'.mono HDr.out.size)); clear p7; go_simp; first | exact ⟨hw', rfl⟩ | exact rfl))
        simp only [Act.put, List.setIfInBounds_toArray, List.set_cons_succ, List.set_cons_zero]
      (apply turnC_step (by rfl); (intro w' hw'; go_simp; exact KA.out w' hw'))
      simp only [Act.put, List.setIfInBounds_toArray, List.set_cons_succ, List.set_cons_zero]
      iterate 1
        (apply turnC_step (by rfl); (intro w' hw'; obtain ⟨x0, x1, x2, x3, x4, x5⟩ := KZ.out w' hw'; obtain ⟨p0, p1, p2, p3, p4, p5, p6, p7⟩ := HRD.out w' (HDr.out.trans (hw'.mono HDr.out.size)); clear p7; go_simp; first | exact ⟨hw', rfl⟩ | exact rfl))
        simp only [Act.put, List.setIfInBounds_toArray, List.set_cons_succ, List.set_cons_zero]
      (apply turnC_step (by rfl); (intro w' hw'; go_simp; first | exact congrArg (Value.int .i64) F1 | exact rfl))
      simp only [Act.put, List.setIfInBounds_toArray, List.set_cons_succ, List.set_cons_zero]
      iterate 2
        (apply turnC_step (by rfl); (intro w' hw'; obtain ⟨x0, x1, x2, x3, x4, x5⟩ := KZ.out w' hw'; obtain ⟨p0, p1, p2, p3, p4, p5, p6, p7⟩ := HRD.out w' (HDr.out.trans (hw'.mono HDr.out.size)); clear p7; go_simp; first | exact ⟨hw', rfl⟩ | exact rfl))
        simp only [Act.put, List.setIfInBounds_toArray, List.set_cons_succ, List.set_cons_zero]
      (apply turnC_step (by rfl); (intro w' hw'; go_simp; exact KB.out w' hw'))
      simp only [Act.put, List.setIfInBounds_toArray, List.set_cons_succ, List.set_cons_zero]
      iterate 1
        (apply turnC_step (by rfl); (intro w' hw'; obtain ⟨x0, x1, x2, x3, x4, x5⟩ := KZ.out w' hw'; obtain ⟨p0, p1, p2, p3, p4, p5, p6, p7⟩ := HRD.out w' (HDr.out.trans (hw'.mono HDr.out.size)); clear p7; go_simp; first | exact ⟨hw', rfl⟩ | exact rfl))
        simp only [Act.put, List.setIfInBounds_toArray, List.set_cons_succ, List.set_cons_zero]
      (apply turnC_step (by rfl); (intro w' hw'; go_simp; first | exact congrArg (Value.int .i64) F2 | exact rfl))
      simp only [Act.put, List.setIfInBounds_toArray, List.set_cons_succ, List.set_cons_zero]
      intro listed w6 _ hw6
      clear F1 F2
      obtain ⟨x0, x1, x2, x3, x4, x5⟩ := KZ.out w6 hw6
      have HW6 := Lib.hid hw6
      clear hw6 x0 x1 x2 x3 x4 x5
      go_wp2_with fail
      refine (KO.out _ HW6.out).mono ?_
      rintro e w7 ⟨rfl, hw7⟩
      have HB7 := Lib.hid (hBk.out.trans (hw7.mono hBk.out.size))
      have HBw7 := Lib.hid (HBr.out.trans (hw7.mono HBr.out.size))
      have HDw7 := Lib.hid (HDr.out.trans (hw7.mono HDr.out.size))
      cases cb
      case false =>
        have HN2 : Hid (∀ j (hj : j < (mts g wd a b).length), j < k + 1 → overB (hq + up) (hr + rise) (mts g wd a b)[j] = false) := Lib.hid (fun j hj h => by
          by_cases e : j = k
          · subst e; rw [HX.out, HCBq.out]
          · exact hN.out j hj (by omega))
        clear hw7
        go_wp2_with fail
        go_roundw
        case rel => exact ⟨k + 1, by omega, by go_num, HN2, HB7⟩
        case measure => simp [intOf]; omega
      case true =>
        have HH : Hid (bl.head? = some (x.ax, x.k)) := Lib.hid (by
          rw [HBL.out, List.head?_map, first_head hN.out hkm (by rw [HX.out, HCBq.out]), HX.out]; rfl)
        have HR0 : Hid (R = .tuple #[.agg #[.int .i64 x.ax, .int .i64 x.k], .bool true]) := Lib.hid (by rw [← HRES.out, HH.out])
        obtain ⟨x0, x1, x2, x3, x4, x5⟩ := KZ.out w7 hw7
        obtain ⟨p0, p1, p2, p3, p4, p5, p6, p7⟩ := HRD.out w7 HDw7.out
        have z0 := cellH p7 0
        have z1 := cellH p7 1
        have zf := freeH p7
        simp at z0 z1
        have HR := Lib.hid (heap_same (heap_same p7 0 (.int .i64 x.ax)) 1 (.int .i64 x.k))
        have HB9 := Lib.hid ((HBw7.out.setCell (p := ⟨w.heap.size + 3, 0, none⟩) (by simp) (.int .i64 x.ax)).setCell (p := ⟨w.heap.size + 3, 1, none⟩) (by simp) (.int .i64 x.k))
        clear hw7 p0 p1 p2 p3 p4 p5 p6 p7 x2 x3 x4 x5
        go_wp2_with fail
        exact bodyPost_ret (res_two Try.results89 _ _ (w.heap.size + 3) 60 #[.int .i64 x.ax, .int .i64 x.k] (0, 0) _ rfl HR.out Try.underlying60 rfl info_crs) rfl ⟨ret_val' HR0.out.symm, HB9.out⟩
    · obtain rfl : k = len := by omega
      have HH : Hid (bl.head? = none) := Lib.hid (by
        rw [HBL.out, none_left (fun j hj _ => hN.out j hj (by rw [← HLE.out]; exact hj))]; rfl)
      have HR0 : Hid (R = .tuple #[.agg #[.int .i64 0, .int .i64 0], .bool false]) := Lib.hid (by rw [← HRES.out, HH.out])
      obtain ⟨_, _, _, _, _, _, _, p7⟩ := HRD.out wr HDr.out
      have z0 := cellH p7 0
      have z1 := cellH p7 1
      have zf := freeH p7
      simp at z0 z1
      have HR := Lib.hid (heap_same (heap_same p7 0 (.int .i64 0)) 1 (.int .i64 0))
      have HB9 := Lib.hid ((HBr.out.setCell (p := ⟨w.heap.size + 3, 0, none⟩) (by simp) (.int .i64 0)).setCell (p := ⟨w.heap.size + 3, 1, none⟩) (by simp) (.int .i64 0))
      clear p7
      go_wp2_with fail
      exact bodyPost_ret (res_two Try.results89 _ _ (w.heap.size + 3) 60 #[.int .i64 0, .int .i64 0] (0, 0) _ rfl HR.out Try.underlying60 rfl info_crs) rfl ⟨ret_val' HR0.out.symm, HB9.out⟩
end Go.Proofs.Ytnacgogcbbpjmaa
