/- Rows of rows of booleans; the reference's Sets and count. -/
import Derived.Test.YtnacgogcbbpjmaaHR0
import Derived.Test.YtnacgogcbbpjmaaHM5
import Derived.Test.YtnacgogcbbpjmaaHP2
import Derived.Laws.MakeOwn
import Derived.Test.YtnacgogcbbpjmaaHP4
set_option linter.unusedVariables false
set_option linter.unusedSimpArgs false
namespace Go.Proofs.Ytnacgogcbbpjmaa
open Go Go.RowKit

/-- A slice of rows of booleans that reads as a table. -/
def BbRow (w : World) (v : Value) (n m : Nat) (f : Nat → Nat → Bool) : Prop :=
  ∃ a cap, v = .slice a n cap ∧ ∀ i, i < n → ∃ b off, a = some ⟨b, off, none⟩ ∧ b < w.heap.size ∧ ∃ r, w.cell? ⟨b, off + i, none⟩ = some (.slice (some ⟨r, 0, none⟩) m m) ∧ r < w.heap.size ∧ ∀ j, j < m → w.cell? ⟨r, j, none⟩ = some (.bool (f i j))
theorem BbRow.keep {w w' : World} {v : Value} {n m : Nat} {f : Nat → Nat → Bool} (h : BbRow w v n m f) (hb : Below w.heap.size w w') : BbRow w' v n m f := by
  obtain ⟨a, cap, rfl, h2⟩ := h
  refine ⟨a, cap, rfl, fun i hi => ?_⟩
  obtain ⟨b, off, ha, hb1, r, hr, hrs, hj⟩ := h2 i hi
  have hs := hb.size
  exact ⟨b, off, ha, by omega, r, (hb.cell (p := ⟨b, _, none⟩) hb1).trans hr, by omega, fun j hjm => (hb.cell (p := ⟨r, _, none⟩) hrs).trans (hj j hjm)⟩
/-- The same, made by the call itself. -/
def BbOwn (w : World) (base : Nat) (v : Value) (k m : Nat) (f : Nat → Nat → Bool) : Prop :=
  ∃ xs, w.ownsRow base 135 1 v k xs ∧ ∀ i, i < k → ∃ r C, xs[i]? = some (Value.slice (some ⟨r, 0, none⟩) m m) ∧ w.heap[r]? = some (Obj.cells C 4 (0, 0)) ∧ ∀ j, j < m → C[j]? = some (Value.bool (f i j))
theorem BbOwn.nil (w : World) (base m : Nat) (f : Nat → Nat → Bool) : BbOwn w base (.slice none 0 0) 0 m f := ⟨[], World.ownsRow_nil _ _ _ _, fun i hi => by omega⟩
theorem BbOwn.below {w w' : World} {base : Nat} {v : Value} {k m : Nat} {f : Nat → Nat → Bool} (h : BbOwn w base v k m f) (hb : Below w.heap.size w w') : BbOwn w' base v k m f := by
  obtain ⟨xs, h1, h2⟩ := h
  refine ⟨xs, row_below h1 hb, fun i hi => ?_⟩
  obtain ⟨r, C, e1, e2, e3⟩ := h2 i hi
  exact ⟨r, C, e1, (hb.block _ (Array.getElem?_eq_some_iff.1 e2).1).trans e2, e3⟩
theorem BbOwn.app {w w' : World} {ob : Obj} {base : Nat} {v v' : Value} {k m : Nat} {f : Nat → Nat → Bool} {xs : List Value} {r : Nat} {C : Array Value}
    (h1 : w.ownsRow base 135 1 v k xs) (h2 : ∀ i, i < k → ∃ r C, xs[i]? = some (Value.slice (some ⟨r, 0, none⟩) m m) ∧ w.heap[r]? = some (Obj.cells C 4 (0, 0)) ∧ ∀ j, j < m → C[j]? = some (Value.bool (f i j)))
    (hr : w.heap[r]? = some (Obj.cells C 4 (0, 0))) (hC : ∀ j, j < m → C[j]? = some (Value.bool (f k j)))
    (h' : w'.ownsRow base 135 1 v' (k + 1) (xs ++ [Value.slice (some ⟨r, 0, none⟩) m m])) (hg : (w.alloc ob).grownBy w' v.ownBlock) : BbOwn w' base v' (k + 1) m f := by
  have hk : xs.length = k := by have := h1.1; omega
  have hkeep : ∀ q D, w.heap[q]? = some (Obj.cells D 4 (0, 0)) → w'.heap[q]? = some (Obj.cells D 4 (0, 0)) := fun q D hq => by
    have hlt := (Array.getElem?_eq_some_iff.1 hq).1
    have hq2 : (w.alloc ob).heap[q]? = some (Obj.cells D 4 (0, 0)) := (Below.heap_alloc w ob q hlt).trans hq
    exact (hg.block q (Array.getElem?_eq_some_iff.1 hq2).1 (own_neJ (h1.alloc ob) hq2 (by decide))).trans hq2
  refine ⟨_, h', fun i hi => ?_⟩
  by_cases hik : i < k
  · obtain ⟨q, D, e1, e2, e3⟩ := h2 i hik
    exact ⟨q, D, by rw [List.getElem?_append_left (by omega)]; exact e1, hkeep q D e2, e3⟩
  · obtain rfl : i = k := by omega
    exact ⟨r, C, by rw [List.getElem?_append_right (by omega), hk, Nat.sub_self]; rfl, hkeep r C hr, hC⟩
theorem BbOwn.row {w : World} {base : Nat} {v : Value} {k m : Nat} {f : Nat → Nat → Bool} (h : BbOwn w base v k m f) : BbRow w v k m f := by
  obtain ⟨xs, h1, h2⟩ := h
  have hk : xs.length = k := by have := h1.1; omega
  subst hk
  rcases own_row1 h1 with ⟨rfl, h3⟩ | ⟨g, c, rfl, _, _, hgs, hc⟩
  · subst h3
    exact ⟨_, _, rfl, fun i hi => by simp at hi⟩
  · refine ⟨_, _, rfl, fun i hi => ?_⟩
    obtain ⟨r, C, e1, e2, e3⟩ := h2 i hi
    exact ⟨g, 0, rfl, hgs, r, by rw [Nat.zero_add]; exact hc i _ e1, (Array.getElem?_eq_some_iff.1 e2).1, fun j hj => (cellH e2 j).trans (e3 j hj)⟩
/-- The row that is being filled, the newest block. -/
def BwRow (Wb wr : World) (m k : Nat) (f : Nat → Bool) : Prop := Below Wb.heap.size Wb wr ∧ ∃ C, wr.heap[Wb.heap.size]? = some (Obj.cells C 4 (0, 0)) ∧ C.size = m ∧ ∀ j, j < k → C[j]? = some (Value.bool (f j))
theorem BwRow.keep {Wb wr wr' : World} {m k : Nat} {f : Nat → Bool} (h : BwRow Wb wr m k f) (hb : Below wr.heap.size wr wr') : BwRow Wb wr' m k f := by
  obtain ⟨h1, C, h2, h3, h4⟩ := h
  have hlt := (Array.getElem?_eq_some_iff.1 h2).1
  exact ⟨h1.trans (hb.mono (by omega)), C, (hb.block _ hlt).trans h2, h3, h4⟩
theorem BwRow.set {Wb wr : World} {m k : Nat} {f : Nat → Bool} (h : BwRow Wb wr m k f) (hk : k < m) : BwRow Wb (wr.setCell ⟨Wb.heap.size, k, none⟩ (.bool (f k))) m (k + 1) f := by
  obtain ⟨h1, C, h2, h3, h4⟩ := h
  refine ⟨h1.setCell (p := ⟨Wb.heap.size, k, none⟩) (Nat.le_refl _) _, C.setIfInBounds k _, heap_same h2 k _, by simpa using h3, fun j hj => ?_⟩
  rw [Array.getElem?_setIfInBounds]
  by_cases e : k = j
  · subst e; rw [if_pos rfl, if_pos (by omega)]
  · rw [if_neg e]; exact h4 j (by omega)
theorem BwRow.cell {Wb wr : World} {m k : Nat} {f : Nat → Bool} (h : BwRow Wb wr m k f) (hk : k < m) : ∃ v, wr.cell? ⟨Wb.heap.size, k, none⟩ = some v := by
  obtain ⟨h1, C, h2, h3, h4⟩ := h
  exact ⟨C[k]'(by omega), (cellH h2 k).trans (by simp)⟩
theorem BwRow.free {Wb wr : World} {m k : Nat} {f : Nat → Bool} (h : BwRow Wb wr m k f) : wr.frozen? ⟨Wb.heap.size, k, none⟩ = false := by
  obtain ⟨h1, C, h2, h3, h4⟩ := h
  exact freeH h2 k
def flsA (n : Nat) : Array Value := madeCells (Value.bool false).cells (n * 1)
theorem info_bl : (Try.prog.info? 4).map (fun i => (i.zero, i.size, i.bytes)) = some (some (.bool false), 1, 1) := by kernel_rfl
theorem info_bls : (Try.prog.info? 135).map (fun i => (i.zero, i.size, i.bytes)) = some (some (.slice none 0 0), 1, 24) := by kernel_rfl
theorem mk_bools (n : Nat) (hn : n ≤ 2401) (W : World) : (Instr.makeSlice 135 (.int .i64 n) (.int .i64 n)).run Try.prog W = .ok (.slice (some ⟨W.heap.size, 0, none⟩) n n) (W.alloc (.cells (flsA n) 4)) := by
  obtain ⟨i, h1, h2, h3, h4⟩ := info_parts info_bl
  have := run_make W 135 4 i (.bool false) Try.underlying135 h1 h2 .i64 .i64 n n (by omega) (by omega) (by rw [h4]; omega) (by omega)
  rw [this, h3]; simp only [Int.toNat_natCast]; rfl
theorem BwRow.start (W : World) (m : Nat) (f : Nat → Bool) : BwRow W (W.alloc (.cells (flsA m) 4)) m 0 f :=
  ⟨(Below.refl _ W).alloc (Nat.le_refl _) _, flsA m, heap_alloc_new _ _, by unfold flsA; rw [size_madeCells, Nat.mul_one], fun j hj => by omega⟩
set_option maxRecDepth 100000 in
set_option maxHeartbeats 8000000 in
theorem rSets_any (wd hg : Int) (o tv hv : Value) (g : List Int) (T : List Tw) (H : List Hz) (rise tick : Int) (w : World) (ho : INRow w o g) (ht : TwRow w tv T) (hh : HzRow w hv H) (hck : ckE wd hg g T H = 0) (hri : 0 ≤ rise ∧ rise ≤ 200) :
    Calls Try.prog 53 #[coV wd hg o tv hv, .int .i64 rise, .int .i64 tick] w fun e w' => ∃ v', e = .returned v' ∧ Below w.heap.size w w' ∧ BbRow w' v' T.length g.length (fun i k => seB g wd (T.getD i .nil) (plI wd k) rise (faO H tick)) := by
  obtain ⟨hm, hn12, hhn, hok, hnd, hhz⟩ := ckE_ok hck
  have hfb := faO_bd (t := tick) hhz
  have HFA := Lib.hid (fun w' (h : Below w.heap.size w w') => rfar_any wd hg o tv hv H tick w' (hh.keep h) (by omega))
  have hin : ∀ t, t ∈ T → ∀ k, k < g.length → ∀ w', Below w.heap.size w w' → Calls Try.prog 55 #[.agg #[.int .i64 wd, .int .i64 hg, o], .agg #[.int .i64 t.id, .int .i64 t.x, .int .i64 t.y, .int .i64 t.h], .agg #[.int .i64 (plI wd k).1, .int .i64 (plI wd k).2], .int .i64 rise, .int .i64 (faO H tick)] w' fun e w'' => e = .returned (.bool (seB g wd t (plI wd k) rise (faO H tick))) ∧ Below w'.heap.size w' w'' := fun t htm k hk w' h => by
    have h1 := hok t htm
    obtain ⟨ti, tx, ty, th⟩ := t
    have h2 := h1.2.2
    unfold wiB at h2
    simp only [Bool.and_eq_true, decide_eq_true_eq] at h2
    exact rin_any wd hg o g ti tx ty th (plI wd k).1 (plI wd k).2 rise _ w' (ho.keep h) hm h1.2.1 (plI_on hm hk) h2 hri hfb
  have HIN := Lib.hid hin
  obtain ⟨a1, a2, a3, a4, a5, _⟩ := vmB_ok hm
  obtain ⟨wn, rfl⟩ : ∃ n : Nat, wd = n := ⟨wd.toNat, by omega⟩
  obtain ⟨hn, rfl⟩ : ∃ n : Nat, hg = n := ⟨hg.toNat, by omega⟩
  have hgl : g.length = hn * wn := by
    rw [← Int.natCast_mul] at a5
    rw [Nat.mul_comm]; exact Int.natCast_inj.1 a5
  have hgm : g.length ≤ 2401 := by
    have : wn * hn ≤ 49 * 49 := Nat.mul_le_mul (by omega) (by omega)
    rw [hgl, Nat.mul_comm]; omega
  obtain ⟨oa, oc, rfl, _⟩ := ho.form
  obtain ⟨ta, tc, rfl, htc⟩ := ht.form
  have HWH := Lib.hid (fun w' => by have h2 := rwhole_any wn hn (.slice oa g.length oc) w' (by omega) (by omega) ⟨_, _, _, rfl⟩; rw [← hgl] at h2; exact h2)
  have HTC := Lib.hid htc
  have HMB := Lib.hid (fun (i : Nat) (hi : i < T.length) => (show T.getD i .nil ∈ T by rw [getD_tw hi]; exact List.getElem_mem _))
  obtain ⟨W1, hW1, hb0, hs1, hrd⟩ := co_reads w wn hn (.slice oa g.length oc) (.slice ta T.length tc) hv
  have HW1 := Lib.hid hW1; have HB0 := Lib.hid hb0; have HRD := Lib.hid hrd
  have HMK := Lib.hid (mk_bools g.length hgm)
  have HT12 := Lib.hid hn12
  have HGM := Lib.hid hgm
  obtain ⟨i0, hi0, hz0, hz1, hz2⟩ := info_parts info_bls
  clear hW1 hb0 hs1 hrd ho ht hh hck hm hn12 hhn hok hnd hhz hri hfb hin htc a1 a2 a3 a4 a5 hgl hgm
  obtain ⟨far, hfar⟩ : ∃ x, faO H tick = x := ⟨_, rfl⟩
  rw [hfar] at HFA HIN ⊢
  clear hfar
  obtain ⟨F, hF⟩ : ∃ F : Nat → Nat → Bool, F = fun i k => seB g wn (T.getD i .nil) (plI wn k) rise far := ⟨_, rfl⟩
  rw [← hF]
  have HFF := Lib.hid (fun i k => (congrFun (congrFun hF i) k))
  clear hF
  unfold coV at HFA
  unfold coV
  go_enter Try.func53, Try.ntmps53
  go_wp2_with fail
  rw [← HW1.out]
  obtain ⟨q0, q1, q2, q3, q4⟩ := HRD.out W1 (Below.refl _ _)
  go_wp2_with fail
  refine (HWH.out _).mono ?_
  rintro e w5 ⟨v5, rfl, hb5, hown⟩
  have hown2 : w5.ownsRow W1.heap.size 32 2 v5 (plN wn g.length).length ((plN wn g.length).flatMap encP) := by rw [plN_len]; exact hown
  have HPR := Lib.hid (PlRow.of_own hown2)
  have HD5 := Lib.hid hb5
  have HB5 := Lib.hid (HB0.out.trans (hb5.mono HB0.out.size))
  obtain ⟨pa, pc, rfl, hpc⟩ := HPR.out.form
  rw [plN_len] at hpc ⊢
  have HPC := Lib.hid hpc
  clear hb5 hown hown2 hpc HPR q0 q1 q2 q3 q4
  go_wp2_with fail
  go_loopw [8, 9] (fun v i wr => ∃ (k : Nat), k ≤ T.length ∧ i = .int .i64 k ∧ Hid (Below w5.heap.size w5 wr) ∧ Hid (BbOwn wr w5.heap.size v k g.length F)) (fun _ i _ => T.length - (intOf i).toNat)
  case atStart => exact ⟨0, Nat.zero_le _, rfl, Lib.hid (Below.refl _ _), Lib.hid (BbOwn.nil _ _ _ _)⟩
  case round =>
    obtain ⟨i, hi, rfl, hB, hO⟩ := hrel
    obtain ⟨Wo, hWo⟩ : ∃ X, X = wr := ⟨_, rfl⟩
    subst hWo
    have HDR := Lib.hid (HD5.out.trans (hB.out.mono HD5.out.size))
    have HBR := Lib.hid (HB5.out.trans (hB.out.mono HB5.out.size))
    obtain ⟨q0, q1, q2, q3, q4⟩ := HRD.out Wo HDR.out
    by_cases hil : i < T.length
    · obtain ⟨tb, tf, rfl, htb, d0, d1, d2, d3⟩ := HTC.out i hil
      have HI1 := Lib.hid (HIN.out _ (HMB.out i hil))
      have HF1 := Lib.hid (HFF.out i)
      obtain ⟨⟨ti, tx, ty, th⟩, htt⟩ : ∃ x, T.getD i .nil = x := ⟨_, rfl⟩
      rw [htt] at d0 d1 d2 d3 HI1 HF1
      simp only at d0 d1 d2 d3 HI1 HF1
      have HTM : Hid (∀ W', Below w.heap.size w W' → W'.cell? ⟨tb, tf + i * 4, none⟩ = some (.int .i64 ti) ∧ W'.cell? ⟨tb, tf + i * 4 + 1, none⟩ = some (.int .i64 tx) ∧ W'.cell? ⟨tb, tf + i * 4 + 2, none⟩ = some (.int .i64 ty) ∧ W'.cell? ⟨tb, tf + i * 4 + 3, none⟩ = some (.int .i64 th)) := Lib.hid (fun W' h => ⟨(h.cell (p := ⟨tb, _, none⟩) htb).trans d0, (h.cell (p := ⟨tb, _, none⟩) htb).trans d1, (h.cell (p := ⟨tb, _, none⟩) htb).trans d2, (h.cell (p := ⟨tb, _, none⟩) htb).trans d3⟩)
      have hii : (i : Int) < T.length := by omega
      have hi0' : (0 : Int) ≤ i := by omega
      have hmk := HMK.out
      have HBW0 := Lib.hid (BwRow.start Wo g.length (F i))
      clear htt d0 d1 d2 d3 htb
      go_wp2_with fail
      clear hmk q0 q1 q2 q3 q4
      have HII := Lib.hid hii
      have HI0 := Lib.hid hi0'
      clear hii hi0'
      go_loopw [11] (fun kk wr => ∃ (j : Nat), j ≤ g.length ∧ kk = .int .i64 j ∧ Hid (BwRow Wo wr g.length j (F i))) (fun kk _ => g.length - (intOf kk).toNat)
      case atStart => exact ⟨0, Nat.zero_le _, rfl, HBW0⟩
      case round =>
        clear HBW0
        obtain ⟨j, hj, rfl, hBW⟩ := hrel
        have HBo := Lib.hid hBW.out.1
        have HBr := Lib.hid (HBR.out.trans (HBo.out.mono HBR.out.size))
        have HDr := Lib.hid (HDR.out.trans (HBo.out.mono HDR.out.size))
        have HB5r := Lib.hid (hB.out.trans (HBo.out.mono hB.out.size))
        by_cases hjl : j < g.length
        · obtain ⟨pb, po, rfl, _, hpb, c0, c1⟩ := HPC.out j hjl
          have hji : (j : Int) < g.length := by omega
          have hj0 : (0 : Int) ≤ j := by omega
          rw [plN_get hjl] at c0 c1
          have HI2 := Lib.hid (HI1.out j hjl)
          have HF2 := Lib.hid (HF1.out j)
          obtain ⟨⟨x, y⟩, hxy⟩ : ∃ q, plI wn j = q := ⟨_, rfl⟩
          rw [hxy] at c0 c1 HI2 HF2
          simp only at c0 c1 HI2 HF2
          rw [← HF2.out] at HI2
          have KA : Hid (∀ W', Below wr.heap.size wr W' → W'.cell? ⟨w.heap.size, 0, none⟩ = some (.int .i64 wn) ∧ W'.cell? ⟨w.heap.size, 1, none⟩ = some (.int .i64 hn) ∧ W'.cell? ⟨w.heap.size, 2, none⟩ = some (.slice oa g.length oc) ∧ W'.cell? ⟨w.heap.size, 3, none⟩ = some (.slice (some ⟨tb, tf, none⟩) T.length tc) ∧ W'.cell? ⟨w.heap.size, 4, none⟩ = some hv ∧ W'.cell? ⟨tb, tf + i * 4, none⟩ = some (.int .i64 ti) ∧ W'.cell? ⟨tb, tf + i * 4 + 1, none⟩ = some (.int .i64 tx) ∧ W'.cell? ⟨tb, tf + i * 4 + 2, none⟩ = some (.int .i64 ty) ∧ W'.cell? ⟨tb, tf + i * 4 + 3, none⟩ = some (.int .i64 th) ∧ W'.cell? ⟨pb, po + j * 2, none⟩ = some (.int .i64 x) ∧ W'.cell? ⟨pb, po + j * 2 + 1, none⟩ = some (.int .i64 y)) := Lib.hid (fun W' h => by
            obtain ⟨z0, z1, z2, z3, z8⟩ := HRD.out W' (HDr.out.trans (h.mono HDr.out.size))
            obtain ⟨z4, z5, z6, z7⟩ := HTM.out W' (HBr.out.trans (h.mono HBr.out.size))
            have hbb := HB5r.out.trans (h.mono HB5r.out.size)
            exact ⟨z0, z1, z2, z3, z8, z4, z5, z6, z7, (hbb.cell (p := ⟨pb, _, none⟩) hpb).trans c0, (hbb.cell (p := ⟨pb, _, none⟩) hpb).trans c1⟩)
          have CF : Hid (∀ w', Below wr.heap.size wr w' → Calls Try.prog 56 #[.agg #[.int .i64 wn, .int .i64 hn, .slice oa g.length oc, .slice (some ⟨tb, tf, none⟩) T.length tc, hv], .int .i64 tick] w' fun e w'' => e = .returned (.int .i64 far) ∧ Below wr.heap.size wr w'') := Lib.hid (fun w' h => (HFA.out w' (HBr.out.trans (h.mono HBr.out.size))).mono fun e w'' ⟨he, hh⟩ => ⟨he, h.trans (hh.mono h.size)⟩)
          have CI : Hid (∀ w', Below wr.heap.size wr w' → Calls Try.prog 55 #[.agg #[.int .i64 wn, .int .i64 hn, .slice oa g.length oc], .agg #[.int .i64 ti, .int .i64 tx, .int .i64 ty, .int .i64 th], .agg #[.int .i64 x, .int .i64 y], .int .i64 rise, .int .i64 far] w' fun e w'' => e = .returned (.bool (F i j)) ∧ Below wr.heap.size wr w'') := Lib.hid (fun w' h => (HI2.out w' (HBr.out.trans (h.mono HBr.out.size))).mono fun e w'' ⟨he, hh⟩ => ⟨he, h.trans (hh.mono h.size)⟩)
          have hii := HII.out
          have hi0' := HI0.out
          clear hxy c0 c1
          go_wp2_with fail
          refine wp_region_turn 19 (fun _ w' => Below wr.heap.size wr w') (by kernel_rfl) (by kernel_rfl) ((Below.refl _ wr).drew) ?_
          simp only [List.take_succ_cons, List.take_zero, List.drop_succ_cons, List.drop_zero]
          iterate 19
            (first
              | (apply turnC_step (by rfl); (intro w' hw'; go_simp; exact CF.out w' hw'))
              | (apply turnC_step (by rfl); (intro w' hw'; go_simp; exact CI.out w' hw'))
              | (apply turnC_step (by rfl); (intro w' hw'; obtain ⟨y0, y1, y2, y3, y10, y4, y5, y6, y7, y8, y9⟩ := KA.out w' hw'; go_simp; first | exact ⟨hw', rfl⟩ | exact rfl)))
            simp only [Act.put, List.setIfInBounds_toArray, List.set_cons_succ, List.set_cons_zero]
          intro listed w6 _ hw6
          have HW6 := Lib.hid (hBW.out.keep hw6)
          obtain ⟨vv, hvv⟩ := HW6.out.cell hjl
          have hff := HW6.out.free (k := j)
          have HN := Lib.hid (HW6.out.set hjl)
          have hgm := HGM.out
          clear hw6 KA CF CI hpb hii hi0'
          go_wp2_with fail
          go_roundw
          case rel => exact ⟨j + 1, by omega, by go_num, HN⟩
          case measure => simp [intOf]; omega
        · obtain rfl : j = g.length := by omega
          obtain ⟨_, C, hC, _, hCj⟩ := hBW.out
          obtain ⟨xs, hx1, hx2⟩ := hO.out.below HBo.out
          have HX := Lib.hid (show _ ∧ _ from ⟨hC, hCj⟩)
          have HX2 := Lib.hid hx2
          have h63 : i + 1 ≤ maxLen := by unfold maxLen; have := HT12.out; omega
          have hby : (i + 1) * 24 ≤ 140737488355328 := by have := HT12.out; omega
          have hbase : w5.heap.size ≤ wr.heap.size := HB5r.out.size
          clear hC hCj hx2
          go_wp2_with (at_builtin; refine wpList_append_own _ rfl _ _ 111 rfl w5.heap.size 135 i0 (.slice none 0 0) 1 24 Try.underlying111 hi0 hz0 hz1 hz2 rfl (by decide) _ _ _ rfl (World.ownsRow.alloc hx1 _) ⟨wr.heap.size, 0, none⟩ 1 1 [.slice (some ⟨Wo.heap.size, 0, none⟩) g.length g.length] rfl rfl (fun j u h => cell_one' _ _ _ j u h) (by simp [Value.oneCell']) h63 hby (by simp; omega) ?_; intro v' w7 hown' hgrow _)
          have HB7 : Hid (Below w5.heap.size w5 w7) := Lib.hid ((HB5r.out.alloc hbase _).grown hgrow (by simp; omega) (fun j e => (World.ownsRow.lt hx1 j e).1))
          have HO7 : Hid (BbOwn w7 w5.heap.size v' (i + 1) g.length F) := Lib.hid (BbOwn.app hx1 HX2.out HX.out.1 HX.out.2 hown' hgrow)
          clear hown' hgrow hx1
          go_wp2_with fail
          go_roundw
          case rel => exact ⟨i + 1, by omega, by go_num, HB7, HO7⟩
          case measure => simp [intOf]; omega
    · obtain rfl : i = T.length := by omega
      go_wp2_with fail
      go_ret
      exact ⟨_, rfl, HBR.out, hO.out.row⟩
/-- How many towers see a place. -/
def cntB (f : Nat → Nat → Bool) (k : Nat) : Nat → Nat
  | 0 => 0
  | i + 1 => if f i k = true then cntB f k i + 1 else cntB f k i
theorem cntB_le (f : Nat → Nat → Bool) (k : Nat) : ∀ n, cntB f k n ≤ n
  | 0 => Nat.le_refl _
  | n + 1 => by
    have := cntB_le f k n
    rw [cntB]; split <;> omega
theorem cntB_zero (f : Nat → Nat → Bool) (k : Nat) : ∀ n, cntB f k n = 0 ↔ ∀ i, i < n → f i k = false
  | 0 => by simp [cntB]
  | n + 1 => by
    rw [cntB]
    have h := cntB_zero f k n
    split
    · rename_i hf
      constructor
      · intro h0; omega
      · intro h0; rw [h0 n (by omega)] at hf; cases hf
    · rename_i hf
      rw [h]
      constructor
      · intro h0 i hi
        by_cases e : i = n
        · subst e; simpa using hf
        · exact h0 i (by omega)
      · intro h0 i hi; exact h0 i (by omega)
set_option maxRecDepth 100000 in
set_option maxHeartbeats 8000000 in
theorem rcount_any (v : Value) (n m : Nat) (f : Nat → Nat → Bool) (k : Nat) (w : World) (h : BbRow w v n m f) (hk : k < m) (hn : n ≤ 1000) (hm : m ≤ 1000000) :
    Calls Try.prog 54 #[v, .int .i64 k] w fun e w' => e = .returned (.int .i64 (cntB f k n : Nat)) ∧ Below w.heap.size w w' := by
  obtain ⟨a, cap, rfl, hc⟩ := h
  have HC := Lib.hid hc
  have HK := Lib.hid hk
  clear hc
  go_enter Try.func54, Try.ntmps54
  go_wp2_with fail
  go_loopw [5, 6] (fun c i wr => ∃ (q : Nat), q ≤ n ∧ c = .int .i64 (cntB f k q : Nat) ∧ i = .int .i64 q ∧ Hid (Below w.heap.size w wr)) (fun _ i _ => n - (intOf i).toNat)
  case atStart => exact ⟨0, Nat.zero_le _, rfl, rfl, Lib.hid (Below.refl _ _)⟩
  case round =>
    obtain ⟨q, hq, rfl, rfl, hB⟩ := hrel
    by_cases hql : q < n
    · obtain ⟨b, off, rfl, hb, r, hr, hrs, hj⟩ := HC.out q hql
      have hqi : (q : Int) < n := by omega
      have hq0 : (0 : Int) ≤ q := by omega
      have hki : (k : Int) < m := by omega
      have hk0 : (0 : Int) ≤ k := by omega
      have e0 := (hB.out.cell (p := ⟨b, _, none⟩) hb).trans hr
      have e1 := (hB.out.cell (p := ⟨r, _, none⟩) hrs).trans (hj k HK.out)
      have hcl := cntB_le f k q
      have HN : Hid (cntB f k (q + 1) = if f q k = true then cntB f k q + 1 else cntB f k q) := Lib.hid rfl
      obtain ⟨c, hcc⟩ : ∃ c, cntB f k q = c := ⟨_, rfl⟩
      rw [hcc] at hcl HN ⊢
      obtain ⟨fb, hfb⟩ : ∃ x, f q k = x := ⟨_, rfl⟩
      rw [hfb] at e1 HN
      clear hr hrs hj hb hcc hfb
      cases fb
      · go_wp2_with fail
        go_roundw
        case rel => exact ⟨q + 1, by omega, by rw [HN.out]; rfl, by go_num, hB⟩
        case measure => simp [intOf]; omega
      · go_wp2_with fail
        go_roundw
        case rel => exact ⟨q + 1, by omega, by rw [HN.out]; first | rfl | go_num, by go_num, hB⟩
        case measure => simp [intOf]; omega
    · obtain rfl : q = n := by omega
      go_wp2_with fail
      go_ret
      exact ⟨rfl, hB.out⟩
end Go.Proofs.Ytnacgogcbbpjmaa

/-! The reference's Gain: how many dark places a tower sees. -/
set_option linter.unusedVariables false
set_option linter.unusedSimpArgs false
namespace Go.Proofs.Ytnacgogcbbpjmaa
open Go Go.RowKit

theorem gnC_next (g : List Int) (wd : Int) (T : List Tw) (t : Tw) (rise far : Int) (k : Nat) :
    gnC g wd t rise far (nsL g wd T rise far (k + 1)) = if (T.any fun t => seB g wd t (plI wd k) rise far) = true then gnC g wd t rise far (nsL g wd T rise far k) else (if seB g wd t (plI wd k) rise far = true then gnC g wd t rise far (nsL g wd T rise far k) + 1 else gnC g wd t rise far (nsL g wd T rise far k)) := by
  rw [nsL]
  split
  · rfl
  · unfold gnC
    rw [List.countP_append, List.countP_singleton]
    split
    · rfl
    · rfl
theorem cnt_any {g : List Int} {wd : Int} {T : List Tw} {rise far : Int} {F : Nat → Nat → Bool} (hF : ∀ i k, F i k = seB g wd (T.getD i .nil) (plI wd k) rise far) (k : Nat) :
    cntB F k T.length = 0 ↔ ¬ (T.any fun t => seB g wd t (plI wd k) rise far) = true := by
  rw [cntB_zero]
  simp only [List.any_eq_true, not_exists, not_and, Bool.not_eq_true]
  constructor
  · intro h1 t ht
    obtain ⟨j, hj, rfl⟩ := List.getElem_of_mem ht
    have := h1 j hj
    rwa [hF, getD_tw hj] at this
  · intro h1 j hj
    rw [hF, getD_tw hj]
    exact h1 _ (List.getElem_mem _)
set_option maxRecDepth 100000 in
set_option maxHeartbeats 8000000 in
theorem rGain_any (wd hg : Int) (o tv hv : Value) (g : List Int) (T : List Tw) (H : List Hz) (ti tx ty th rise tick : Int) (w : World) (ho : INRow w o g) (ht : TwRow w tv T) (hh : HzRow w hv H) (hck : ckE wd hg g T H = 0) (hri : 0 ≤ rise ∧ rise ≤ 200) (hon : onB wd hg (tx, ty) = true) (hth : 0 ≤ th ∧ th ≤ 200) :
    Calls Try.prog 35 #[coV wd hg o tv hv, .agg #[.int .i64 ti, .int .i64 tx, .int .i64 ty, .int .i64 th], .int .i64 rise, .int .i64 tick] w fun e w' => e = .returned (.int .i64 (gnC g wd ⟨ti, tx, ty, th⟩ rise (faO H tick) (nsL g wd T rise (faO H tick) g.length) : Nat)) ∧ Below w.heap.size w w' := by
  have HST := Lib.hid (fun w' (h : Below w.heap.size w w') => rSets_any wd hg o tv hv g T H rise tick w' (ho.keep h) (ht.keep h) (hh.keep h) hck hri)
  obtain ⟨hm, hn12, hhn, hok, hnd, hhz⟩ := ckE_ok hck
  have hfb := faO_bd (t := tick) hhz
  have HFA := Lib.hid (fun w' (h : Below w.heap.size w w') => rfar_any wd hg o tv hv H tick w' (hh.keep h) (by omega))
  have hin : ∀ k, k < g.length → ∀ w', Below w.heap.size w w' → Calls Try.prog 55 #[.agg #[.int .i64 wd, .int .i64 hg, o], .agg #[.int .i64 ti, .int .i64 tx, .int .i64 ty, .int .i64 th], .agg #[.int .i64 (plI wd k).1, .int .i64 (plI wd k).2], .int .i64 rise, .int .i64 (faO H tick)] w' fun e w'' => e = .returned (.bool (seB g wd ⟨ti, tx, ty, th⟩ (plI wd k) rise (faO H tick))) ∧ Below w'.heap.size w' w'' := fun k hk w' h =>
    rin_any wd hg o g ti tx ty th (plI wd k).1 (plI wd k).2 rise _ w' (ho.keep h) hm hon (plI_on hm hk) hth hri hfb
  have HIN := Lib.hid hin
  obtain ⟨a1, a2, a3, a4, a5, _⟩ := vmB_ok hm
  obtain ⟨wn, rfl⟩ : ∃ n : Nat, wd = n := ⟨wd.toNat, by omega⟩
  obtain ⟨hn, rfl⟩ : ∃ n : Nat, hg = n := ⟨hg.toNat, by omega⟩
  have hgl : g.length = hn * wn := by
    rw [← Int.natCast_mul] at a5
    rw [Nat.mul_comm]; exact Int.natCast_inj.1 a5
  have hgm : g.length ≤ 2401 := by
    have : wn * hn ≤ 49 * 49 := Nat.mul_le_mul (by omega) (by omega)
    rw [hgl, Nat.mul_comm]; omega
  obtain ⟨oa, oc, rfl, _⟩ := ho.form
  have HWH := Lib.hid (fun w' => by have h2 := rwhole_any wn hn (.slice oa g.length oc) w' (by omega) (by omega) ⟨_, _, _, rfl⟩; rw [← hgl] at h2; exact h2)
  have HGM := Lib.hid hgm
  have HT12 := Lib.hid hn12
  obtain ⟨far, hfar⟩ : ∃ x, faO H tick = x := ⟨_, rfl⟩
  rw [hfar] at HFA HIN HST ⊢
  obtain ⟨F, hF⟩ : ∃ F : Nat → Nat → Bool, F = fun i k => seB g wn (T.getD i .nil) (plI wn k) rise far := ⟨_, rfl⟩
  rw [← hF] at HST
  have HNX := Lib.hid (fun k => gnC_next g wn T ⟨ti, tx, ty, th⟩ rise far k)
  have HCA := Lib.hid (fun k => cnt_any (g := g) (wd := wn) (T := T) (rise := rise) (far := far) (F := F) (fun i k => congrFun (congrFun hF i) k) k)
  have HLE : Hid (∀ k, gnC g wn ⟨ti, tx, ty, th⟩ rise far (nsL g wn T rise far k) ≤ k) := Lib.hid (fun k => Nat.le_trans (gnC_le _ _ _ _ _ _) (nsL_len _ _ _ _ _ _))
  have HCC := Lib.hid (fun v k w' (h : BbRow w' v T.length g.length F) (hk : k < g.length) => rcount_any v T.length g.length F k w' h hk (by omega) (by omega))
  have HG0 : Hid (gnC g wn ⟨ti, tx, ty, th⟩ rise far (nsL g wn T rise far 0) = 0) := Lib.hid (by simp [nsL, gnC])
  obtain ⟨G, hG⟩ : ∃ G : Nat → Nat, G = fun k => gnC g wn ⟨ti, tx, ty, th⟩ rise far (nsL g wn T rise far k) := ⟨_, rfl⟩
  have hGk : ∀ k, gnC g wn ⟨ti, tx, ty, th⟩ rise far (nsL g wn T rise far k) = G k := fun k => (congrFun hG k).symm
  rw [hGk]
  have HA : Hid (∀ W', Below ((w.alloc (.cells #[.int .i64 wn, .int .i64 hn, .slice oa g.length oc, tv, hv] 28)).alloc (.cells #[.int .i64 ti, .int .i64 tx, .int .i64 ty, .int .i64 th] 48)).heap.size ((w.alloc (.cells #[.int .i64 wn, .int .i64 hn, .slice oa g.length oc, tv, hv] 28)).alloc (.cells #[.int .i64 ti, .int .i64 tx, .int .i64 ty, .int .i64 th] 48)) W' → W'.cell? ⟨w.heap.size, 0, none⟩ = some (.int .i64 wn) ∧ W'.cell? ⟨w.heap.size, 1, none⟩ = some (.int .i64 hn) ∧ W'.cell? ⟨w.heap.size, 2, none⟩ = some (.slice oa g.length oc) ∧ W'.cell? ⟨w.heap.size, 3, none⟩ = some tv ∧ W'.cell? ⟨w.heap.size, 4, none⟩ = some hv ∧ W'.cell? ⟨w.heap.size + 1, 0, none⟩ = some (.int .i64 ti) ∧ W'.cell? ⟨w.heap.size + 1, 1, none⟩ = some (.int .i64 tx) ∧ W'.cell? ⟨w.heap.size + 1, 2, none⟩ = some (.int .i64 ty) ∧ W'.cell? ⟨w.heap.size + 1, 3, none⟩ = some (.int .i64 th) ∧ Below w.heap.size w W') := Lib.hid (fun W' h => by
    obtain ⟨a, b, _, d⟩ := two_cells w _ _ _ _ h
    exact ⟨cellH a 0, cellH a 1, cellH a 2, cellH a 3, cellH a 4, cellH b 0, cellH b 1, cellH b 2, cellH b 3, d⟩)
  obtain ⟨W1, hW1⟩ : ∃ X, (w.alloc (.cells #[.int .i64 wn, .int .i64 hn, .slice oa g.length oc, tv, hv] 28)).alloc (.cells #[.int .i64 ti, .int .i64 tx, .int .i64 ty, .int .i64 th] 48) = X := ⟨_, rfl⟩
  rw [hW1] at HA
  have HW1 := Lib.hid hW1
  have HRD := HA
  have HGK := Lib.hid hGk
  have HB0 := Lib.hid (HA.out W1 (Below.refl _ _)).2.2.2.2.2.2.2.2.2
  clear hW1 HA ho ht hh hck hm hn12 hhn hok hnd hhz hri hfb hin a1 a2 a3 a4 a5 hgl hgm hon hth hfar hF hG hGk
  unfold coV at HFA HST
  unfold coV
  go_enter Try.func35, Try.ntmps35
  go_wp2_with fail
  rw [HW1.out]
  obtain ⟨q0, q1, q2, q3, q4, q5, q6, q7, q8, _⟩ := HRD.out W1 (Below.refl _ _)
  go_wp2_with fail
  refine (HWH.out _).mono ?_
  rintro e w5 ⟨v5, rfl, hb5, hown⟩
  have hown2 : w5.ownsRow W1.heap.size 32 2 v5 (plN wn g.length).length ((plN wn g.length).flatMap encP) := by rw [plN_len]; exact hown
  have HPR := Lib.hid (PlRow.of_own hown2)
  have HD5 := Lib.hid hb5
  have HB5 := Lib.hid (HB0.out.trans (hb5.mono HB0.out.size))
  clear hb5 hown hown2 q0 q1 q2 q3 q4 q5 q6 q7 q8
  obtain ⟨q0, q1, q2, q3, q4, q5, q6, q7, q8, _⟩ := HRD.out w5 HD5.out
  go_wp2_with fail
  refine (HST.out _ HB5.out).mono ?_
  rintro e w6 ⟨v6, rfl, hb6, hbb⟩
  have HPR6 := Lib.hid (HPR.out.keep hb6)
  have HBB := Lib.hid hbb
  have HD6 := Lib.hid (HD5.out.trans (hb6.mono HD5.out.size))
  have HB6 := Lib.hid (HB5.out.trans (hb6.mono HB5.out.size))
  clear HPR hb6 hbb q0 q1 q2 q3 q4 q5 q6 q7 q8
  obtain ⟨pa, pc, rfl, hpc⟩ := HPR6.out.form
  rw [plN_len] at hpc ⊢
  have HPC := Lib.hid hpc
  clear hpc
  go_wp2_with fail
  go_loopw [11, 12] (fun n k wr => ∃ (q : Nat), q ≤ g.length ∧ n = .int .i64 (G q : Nat) ∧ k = .int .i64 q ∧ Hid (Below w6.heap.size w6 wr)) (fun _ k _ => g.length - (intOf k).toNat)
  case atStart => exact ⟨0, Nat.zero_le _, by rw [← HGK.out, HG0.out]; rfl, rfl, Lib.hid (Below.refl _ _)⟩
  case round =>
    obtain ⟨q, hq, rfl, rfl, hB⟩ := hrel
    have HDR := Lib.hid (HD6.out.trans (hB.out.mono HD6.out.size))
    have HBR := Lib.hid (HB6.out.trans (hB.out.mono HB6.out.size))
    by_cases hql : q < g.length
    · obtain ⟨pb, po, rfl, _, hpb, c0, c1⟩ := HPC.out q hql
      have hqi : (q : Int) < g.length := by omega
      have hq0 : (0 : Int) ≤ q := by omega
      rw [plN_get hql] at c0 c1
      have HI2 := Lib.hid (HIN.out q hql)
      have hlt : G q + 1 ≤ 2402 := by have h1 := HLE.out q; rw [HGK.out] at h1; have h2 := HGM.out; omega
      have HN : Hid (G (q + 1) = if cntB F q T.length = 0 then (if seB g wn ⟨ti, tx, ty, th⟩ (plI wn q) rise far = true then G q + 1 else G q) else G q) := Lib.hid (by
        have h1 := HNX.out q
        rw [HGK.out, HGK.out] at h1
        rw [h1]
        by_cases hz : cntB F q T.length = 0
        · rw [if_pos hz, if_neg ((HCA.out q).1 hz)]
        · rw [if_neg hz, if_pos (by by_cases h2 : (T.any fun t => seB g wn t (plI wn q) rise far) = true; exact h2; exact absurd ((HCA.out q).2 h2) hz)])
      obtain ⟨Gq, hGq⟩ : ∃ x, G q = x := ⟨_, rfl⟩
      rw [hGq] at HN hlt ⊢
      obtain ⟨⟨x, y⟩, hxy⟩ : ∃ p, plI wn q = p := ⟨_, rfl⟩
      rw [hxy] at c0 c1 HI2 HN
      simp only at c0 c1 HI2
      obtain ⟨fb, hfb⟩ : ∃ b, seB g wn ⟨ti, tx, ty, th⟩ (x, y) rise far = b := ⟨_, rfl⟩
      rw [hfb] at HI2 HN
      have KA : Hid (∀ W', Below wr.heap.size wr W' → W'.cell? ⟨w.heap.size, 0, none⟩ = some (.int .i64 wn) ∧ W'.cell? ⟨w.heap.size, 1, none⟩ = some (.int .i64 hn) ∧ W'.cell? ⟨w.heap.size, 2, none⟩ = some (.slice oa g.length oc) ∧ W'.cell? ⟨w.heap.size, 3, none⟩ = some tv ∧ W'.cell? ⟨w.heap.size, 4, none⟩ = some hv ∧ W'.cell? ⟨w.heap.size + 1, 0, none⟩ = some (.int .i64 ti) ∧ W'.cell? ⟨w.heap.size + 1, 1, none⟩ = some (.int .i64 tx) ∧ W'.cell? ⟨w.heap.size + 1, 2, none⟩ = some (.int .i64 ty) ∧ W'.cell? ⟨w.heap.size + 1, 3, none⟩ = some (.int .i64 th) ∧ W'.cell? ⟨pb, po + q * 2, none⟩ = some (.int .i64 x) ∧ W'.cell? ⟨pb, po + q * 2 + 1, none⟩ = some (.int .i64 y)) := Lib.hid (fun W' h => by
        obtain ⟨z0, z1, z2, z3, z4, z5, z6, z7, z8, _⟩ := HRD.out W' (HDR.out.trans (h.mono HDR.out.size))
        have hbb := hB.out.trans (h.mono hB.out.size)
        exact ⟨z0, z1, z2, z3, z4, z5, z6, z7, z8, (hbb.cell (p := ⟨pb, _, none⟩) hpb).trans c0, (hbb.cell (p := ⟨pb, _, none⟩) hpb).trans c1⟩)
      obtain ⟨cn, hcn⟩ : ∃ x, cntB F q T.length = x := ⟨_, rfl⟩
      have CC : Hid (∀ w', Below wr.heap.size wr w' → Calls Try.prog 54 #[v6, .int .i64 q] w' fun e w'' => e = .returned (.int .i64 (cn : Nat)) ∧ Below wr.heap.size wr w'') := Lib.hid (fun w' h => by
        have h1 := HCC.out v6 q w' (HBB.out.keep (hB.out.trans (h.mono hB.out.size))) hql
        rw [hcn] at h1
        exact h1.mono fun e w'' ⟨he, hh⟩ => ⟨he, h.trans (hh.mono h.size)⟩)
      rw [hcn] at HN
      have CF : Hid (∀ w', Below wr.heap.size wr w' → Calls Try.prog 56 #[.agg #[.int .i64 wn, .int .i64 hn, .slice oa g.length oc, tv, hv], .int .i64 tick] w' fun e w'' => e = .returned (.int .i64 far) ∧ Below wr.heap.size wr w'') := Lib.hid (fun w' h => (HFA.out w' (HBR.out.trans (h.mono HBR.out.size))).mono fun e w'' ⟨he, hh⟩ => ⟨he, h.trans (hh.mono h.size)⟩)
      have CI : Hid (∀ w', Below wr.heap.size wr w' → Calls Try.prog 55 #[.agg #[.int .i64 wn, .int .i64 hn, .slice oa g.length oc], .agg #[.int .i64 ti, .int .i64 tx, .int .i64 ty, .int .i64 th], .agg #[.int .i64 x, .int .i64 y], .int .i64 rise, .int .i64 far] w' fun e w'' => e = .returned (.bool fb) ∧ Below wr.heap.size wr w'') := Lib.hid (fun w' h => (HI2.out w' (HBR.out.trans (h.mono HBR.out.size))).mono fun e w'' ⟨he, hh⟩ => ⟨he, h.trans (hh.mono h.size)⟩)
      clear hxy c0 c1 hfb hcn hpb hGq
      by_cases hz : cn = 0
      · subst hz
        rw [if_pos rfl] at HN
        go_wp2_with fail
        refine wp_region_turn 17 (fun _ w' => Below wr.heap.size wr w') (by kernel_rfl) (by kernel_rfl) ((Below.refl _ wr).drew) ?_
        simp only [List.take_succ_cons, List.take_zero, List.drop_succ_cons, List.drop_zero]
        iterate 17
          (first
            | (apply turnC_step (by rfl); (intro w' hw'; go_simp; exact CC.out w' hw'))
            | (apply turnC_step (by rfl); (intro w' hw'; go_simp; exact CF.out w' hw'))
            | (apply turnC_step (by rfl); (intro w' hw'; go_simp; exact CI.out w' hw'))
            | (apply turnC_step (by rfl); (intro w' hw'; obtain ⟨y0, y1, y2, y3, y4, y5, y6, y7, y8, y9, y10⟩ := KA.out w' hw'; go_simp; first | exact ⟨hw', rfl⟩ | exact rfl)))
          simp only [Act.put, List.setIfInBounds_toArray, List.set_cons_succ, List.set_cons_zero]
        intro listed w7 _ hw7
        have HB7 := Lib.hid (hB.out.trans (hw7.mono hB.out.size))
        have hgm := HGM.out
        clear hw7 KA CC CF CI
        cases fb
        · have HN2 : Hid (G (q + 1) = Gq) := Lib.hid (by rw [HN.out]; rfl)
          go_wp2_with fail
          go_roundw
          case rel => exact ⟨q + 1, by omega, by rw [HN2.out], by go_num, HB7⟩
          case measure => simp [intOf]; omega
        · have HN2 : Hid (G (q + 1) = Gq + 1) := Lib.hid (by rw [HN.out]; rfl)
          go_wp2_with fail
          go_roundw
          case rel => exact ⟨q + 1, by omega, by rw [HN2.out]; go_num, by go_num, HB7⟩
          case measure => simp [intOf]; omega
      · have HN2 : Hid (G (q + 1) = Gq) := Lib.hid (by rw [HN.out, if_neg hz])
        have hz1 : ((cn : Int) == 0) = false := by simp; omega
        clear hz HN
        go_wp2_with fail
        refine wp_region_turn 17 (fun _ w' => Below wr.heap.size wr w') (by kernel_rfl) (by kernel_rfl) ((Below.refl _ wr).drew) ?_
        simp only [List.take_succ_cons, List.take_zero, List.drop_succ_cons, List.drop_zero]
        iterate 17
          (first
            | apply turnC_skip (by rfl)
            | (apply turnC_step (by rfl); (intro w' hw'; go_simp; exact CC.out w' hw'))
            | (apply turnC_step (by rfl); (intro w' hw'; obtain ⟨y0, y1, y2, y3, y4, y5, y6, y7, y8, y9, y10⟩ := KA.out w' hw'; go_simp; first | exact ⟨hw', rfl⟩ | exact rfl)))
          simp only [Act.put, List.setIfInBounds_toArray, List.set_cons_succ, List.set_cons_zero]
        intro listed w7 _ hw7
        have HB7 := Lib.hid (hB.out.trans (hw7.mono hB.out.size))
        have hgm := HGM.out
        clear hw7 KA CC CF CI hz1
        go_wp2_with fail
        go_roundw
        case rel => exact ⟨q + 1, by omega, by rw [HN2.out], by go_num, HB7⟩
        case measure => simp [intOf]; omega
    · obtain rfl : q = g.length := by omega
      go_wp2_with fail
      go_ret
      exact ⟨rfl, HBR.out⟩
end Go.Proofs.Ytnacgogcbbpjmaa
