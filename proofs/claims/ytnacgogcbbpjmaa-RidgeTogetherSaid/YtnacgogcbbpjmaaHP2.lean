/- watched of package ridge. -/
import Derived.Test.YtnacgogcbbpjmaaHP0
import Derived.Test.YtnacgogcbbpjmaaHM1
import Derived.Test.YtnacgogcbbpjmaaHI0
import Derived.Test.YtnacgogcbbpjmaaHJ0
set_option linter.unusedVariables false
set_option linter.unusedSimpArgs false
namespace Go.Proofs.Ytnacgogcbbpjmaa
open Go Go.RowKit

theorem faO_bd {t : Int} : ∀ {H : List Hz} {en : Int}, hzB en H = true → 0 ≤ faO H t ∧ faO H t ≤ 100
  | [], _, _ => by simp [faO]
  | h :: H, en, hz => by
    unfold hzB at hz
    simp only [Bool.and_eq_true] at hz
    obtain ⟨⟨⟨_, _⟩, h4⟩, h5⟩ := hz
    rw [faO]
    split
    · unfold wiB at h4
      simpa using h4
    · exact faO_bd h5
/-- The towers that see the place with a number, as a number. -/
def wmN (g : List Int) (wd : Int) (L : List Tw) (rise far : Int) (i : Nat) : Nat := mTo (seI g wd L (plI wd i) rise far) L.length
def wdL (g : List Int) (wd : Int) (L : List Tw) (rise far : Int) (k : Nat) : List Value := (List.range k).map fun i => Value.int .u64 (wmN g wd L rise far i : Nat)
theorem wdL_succ (g : List Int) (wd : Int) (L : List Tw) (rise far : Int) (k : Nat) : wdL g wd L rise far (k + 1) = wdL g wd L rise far k ++ [.int .u64 (wmN g wd L rise far k : Nat)] := by
  unfold wdL; rw [List.range_succ, List.map_append]; rfl
theorem info_set : (Try.prog.info? 87).map (fun i => (i.zero, i.size, i.bytes)) = some (some (.int .u64 0), 1, 8) := by kernel_rfl
def WdI (w W1 : World) (wd hg rise tick far : Int) (oa : Option Addr) (gn oc : Nat) (tv hv : Value) (T : List Tw) (listed : Array Bool) (a : Act) (w' : World) : Prop := ∃ (l0 l1 l2 l3 l4 l5 l6 l7 : Bool) (V : Value), listed = #[l0, l1, l2, l3, l4, l5, l6, l7] ∧ a = { tmps := #[.agg #[.int .i64 wd, .int .i64 hg, .slice oa gn oc, tv, hv], .int .i64 rise, .int .i64 tick, .pointer (some ⟨w.heap.size, 0, none⟩), undef, undef, .slice none 0 0, pickIf l6 (V) (undef), pickIf l7 (.int .i64 far) (undef), undef, undef, undef, pickIf l0 (.pointer (some ⟨w.heap.size, 3, none⟩)) (undef), pickIf l1 (tv) (undef), pickIf l2 (V) (undef), pickIf l3 (.agg #[.int .i64 wd, .int .i64 hg, .slice oa gn oc, tv, hv]) (undef), pickIf l4 (.int .i64 tick) (undef), pickIf l5 (.int .i64 far) (undef), undef, undef, undef, undef, undef, undef, undef, undef, undef, undef, undef, undef, undef, undef, undef, undef, undef, undef, undef, undef], defers := [] } ∧ Below W1.heap.size W1 w' ∧ (l2 = true → ∃ L, TwRow w' V L ∧ Ord L T) ∧ (l6 = true → l2 = true)
set_option maxRecDepth 100000 in
set_option maxHeartbeats 8000000 in
theorem watched_any (wd hg : Int) (o tv hv : Value) (g : List Int) (T : List Tw) (H : List Hz) (rise tick : Int) (w : World) (ho : INRow w o g) (ht : TwRow w tv T) (hh : HzRow w hv H) (hck : ckE wd hg g T H = 0) (hri : 0 ≤ rise ∧ rise ≤ 200) :
    Calls Try.prog 37 #[coV wd hg o tv hv, .int .i64 rise, .int .i64 tick] w fun e w' => ∃ v' L, e = .returned v' ∧ Below w.heap.size w w' ∧ Ord L T ∧ w'.ownsRow w.heap.size 87 1 v' g.length (wdL g wd L rise (faO H tick) g.length) := by
  obtain ⟨hm, hn, hhn, hok, hnd, hhz⟩ := ckE_ok hck
  have HFB := Lib.hid (faO_bd (t := tick) hhz)
  have HOR := Lib.hid (fun w' (h : Below w.heap.size w w') => ordered_any tv T w' (ht.keep h) hn hnd)
  have HFA := Lib.hid (fun w' (h : Below w.heap.size w w') => farAt_any wd hg o tv hv H tick w' (hh.keep h) (by omega))
  have HPL := Lib.hid (fun w' (h : Below w.heap.size w w') => places_any wd hg o g w' (ho.keep h) hm)
  have HO := Lib.hid ho
  have HM := Lib.hid hm
  have HOK := Lib.hid hok
  have HRI := Lib.hid hri
  have hgm : g.length ≤ 2401 := by
    obtain ⟨a1, a2, a3, a4, a5, _⟩ := vmB_ok hm
    have h1 : wd * hg ≤ 49 * 49 := Int.mul_le_mul a2 a4 (by omega) (by omega)
    omega
  obtain ⟨oa, oc, rfl, _⟩ := ho.form
  obtain ⟨W1, hW1, hb0, hs1, hrd⟩ := co_reads w wd hg (.slice oa g.length oc) tv hv
  have HW1 := Lib.hid hW1; have HB0 := Lib.hid hb0; have HRD := Lib.hid hrd
  have HN := Lib.hid hn
  clear hW1 hb0 hs1 hrd ho ht hh hck hm hn hhn hok hnd hhz hri
  obtain ⟨i0, hi0, hz0, hz1, hz2⟩ := info_parts info_set
  obtain ⟨far, hfar⟩ : ∃ x, faO H tick = x := ⟨_, rfl⟩
  rw [hfar] at HFB HFA ⊢
  clear hfar
  unfold coV at HFA
  unfold coV
  have HORR := Lib.hid (fun w' (h : Below W1.heap.size W1 w') => HOR.out w' (HB0.out.trans (h.mono HB0.out.size)))
  have HFAR := Lib.hid (fun w' (h : Below W1.heap.size W1 w') => HFA.out w' (HB0.out.trans (h.mono HB0.out.size)))
  go_enter Try.func37, Try.ntmps37
  go_wp2_with fail
  rw [← HW1.out]
  obtain ⟨q0, q1, q2, q3, q4⟩ := HRD.out W1 (Below.refl _ _)
  go_wp2_with fail
  rename_i Q K hK
  suffices key : ∀ (V : Value) (W : World), Hid (Below W1.heap.size W1 W ∧ ∃ L, TwRow W V L ∧ Ord L T) → Exit.then K Q Exit.normal { tmps := #[.agg #[.int .i64 wd, .int .i64 hg, .slice oa g.length oc, tv, hv], .int .i64 rise, .int .i64 tick, .pointer (some ⟨w.heap.size, 0, none⟩), undef, undef, .slice none 0 0, (V), (.int .i64 far), undef, undef, undef, (.pointer (some ⟨w.heap.size, 3, none⟩)), (tv), (V), (.agg #[.int .i64 wd, .int .i64 hg, .slice oa g.length oc, tv, hv]), (.int .i64 tick), (.int .i64 far), undef, undef, undef, undef, undef, undef, undef, undef, undef, undef, undef, undef, undef, undef, undef, undef, undef, undef, undef, undef], defers := [] } W by
    clear hK
    refine wp_region_inv (by kernel_rfl) (WdI w W1 wd hg rise tick far oa g.length oc tv hv T) ⟨false, false, false, false, false, false, false, false, undef, rfl, rfl, (Below.refl _ W1).drew, by simp, by simp⟩ ?hend ?hstep
    case hend =>
      rintro listed a w' ⟨l0, l1, l2, l3, l4, l5, l6, l7, V, rfl, rfl, hb, hV, k6⟩ hr
      have hAll := ready_all (by kernel_rfl) rfl hr 8
      have hall : l0 = true ∧ l1 = true ∧ l2 = true ∧ l3 = true ∧ l4 = true ∧ l5 = true ∧ l6 = true ∧ l7 = true :=
        ⟨hAll 0 (by decide) (by simp), hAll 1 (by decide) (by simp), hAll 2 (by decide) (by simp), hAll 3 (by decide) (by simp), hAll 4 (by decide) (by simp), hAll 5 (by decide) (by simp), hAll 6 (by decide) (by simp), hAll 7 (by decide) (by simp)⟩
      obtain ⟨rfl, rfl, rfl, rfl, rfl, rfl, rfl, rfl⟩ := hall
      exact key V w' (Lib.hid ⟨hb, hV rfl⟩)
    case hstep =>
      rintro listed a w' i ⟨l0, l1, l2, l3, l4, l5, l6, l7, V, rfl, rfl, hb, hV, k6⟩ hi
      obtain ⟨hf, o', ho', hp⟩ := mem_ready.1 hi
      have hi8 : i < 8 := (Array.getElem?_eq_some_iff.1 ho').1
      clear hi
      have hQD := HRD.out w' hb
      match i, hi8 with
      | 0, _ =>
        obtain rfl : l0 = false := hf
        clear hp ho'
        unfold wpOp
        obtain ⟨q0, q1, q2, q3, q4⟩ := hQD
        go_simp
        exact .inl ⟨true, l1, l2, l3, l4, l5, l6, l7, V, rfl, rfl, hb, hV, k6⟩
      | 1, _ =>
        obtain rfl : l1 = false := hf
        cases ho'
        obtain rfl : l0 = true := hp ⟨0, .data⟩ (by simp) rfl
        clear hp
        unfold wpOp
        simp only [pickIf_true]
        obtain ⟨q0, q1, q2, q3, q4⟩ := hQD
        go_simp
        exact .inl ⟨true, true, l2, l3, l4, l5, l6, l7, V, rfl, rfl, hb, hV, k6⟩
      | 2, _ =>
        obtain rfl : l2 = false := hf
        obtain rfl : l6 = false := by
          cases l6 with
          | false => rfl
          | true => exact absurd (k6 rfl) (by decide)
        cases ho'
        obtain rfl : l1 = true := hp ⟨1, .data⟩ (by simp) rfl
        clear hp
        unfold wpOp
        simp only [pickIf_true]
        obtain ⟨q0, q1, q2, q3, q4⟩ := hQD
        go_simp
        refine .inl ((HORR.out w' hb).mono ?_)
        rintro e w55 ⟨v2, L, rfl, hL, hO, hb5⟩
        exact ⟨l0, true, true, l3, l4, l5, false, l7, v2, rfl, rfl, hb.trans (hb5.mono hb.size), fun _ => ⟨L, hL, hO⟩, fun h => (by cases h)⟩
      | 3, _ =>
        obtain rfl : l3 = false := hf
        clear hp ho'
        unfold wpOp
        obtain ⟨q0, q1, q2, q3, q4⟩ := hQD
        go_simp
        exact .inl ⟨l0, l1, l2, true, l4, l5, l6, l7, V, rfl, rfl, hb, hV, k6⟩
      | 4, _ =>
        obtain rfl : l4 = false := hf
        clear hp ho'
        unfold wpOp
        obtain ⟨q0, q1, q2, q3, q4⟩ := hQD
        go_simp
        exact .inl ⟨l0, l1, l2, l3, true, l5, l6, l7, V, rfl, rfl, hb, hV, k6⟩
      | 5, _ =>
        obtain rfl : l5 = false := hf
        cases ho'
        obtain rfl : l3 = true := hp ⟨3, .data⟩ (by simp) rfl
        obtain rfl : l4 = true := hp ⟨4, .data⟩ (by simp) rfl
        clear hp
        unfold wpOp
        simp only [pickIf_true]
        obtain ⟨q0, q1, q2, q3, q4⟩ := hQD
        go_simp
        refine .inl ((HFAR.out w' hb).mono ?_)
        rintro e w55 ⟨rfl, hb5⟩
        exact ⟨l0, l1, l2, true, true, true, l6, l7, V, rfl, rfl, hb.trans (hb5.mono hb.size), fun h => (let ⟨L, h1, h2⟩ := hV h; ⟨L, h1.keep hb5, h2⟩), k6⟩
      | 6, _ =>
        obtain rfl : l6 = false := hf
        cases ho'
        obtain rfl : l2 = true := hp ⟨2, .data⟩ (by simp) rfl
        clear hp
        unfold wpOp
        simp only [pickIf_true]
        obtain ⟨q0, q1, q2, q3, q4⟩ := hQD
        go_simp
        exact .inl ⟨l0, l1, true, l3, l4, l5, true, l7, V, rfl, rfl, hb, hV, fun _ => rfl⟩
      | 7, _ =>
        obtain rfl : l7 = false := hf
        cases ho'
        obtain rfl : l5 = true := hp ⟨5, .data⟩ (by simp) rfl
        clear hp
        unfold wpOp
        simp only [pickIf_true]
        obtain ⟨q0, q1, q2, q3, q4⟩ := hQD
        go_simp
        exact .inl ⟨l0, l1, l2, l3, l4, true, l6, true, V, rfl, rfl, hb, hV, k6⟩
  intro V W3 HVW
  show K _ _
  apply hK
  clear hK
  obtain ⟨hd3, L, hL, hO⟩ := HVW.out
  have HORD := Lib.hid hO
  have HLR3 := Lib.hid hL
  have HD3 := Lib.hid hd3
  have HB3 := Lib.hid (HB0.out.trans (HD3.out.mono HB0.out.size))
  clear hd3 hL hO HVW q0 q1 q2 q3 q4
  obtain ⟨q0, q1, q2, q3, q4⟩ := HRD.out W3 HD3.out
  go_wp2_with fail
  refine (HPL.out _ HB3.out).mono ?_
  rintro e w5 ⟨v5, rfl, hb5, hown⟩
  have hown2 : w5.ownsRow W3.heap.size 32 2 v5 (plN wd g.length).length ((plN wd g.length).flatMap encP) := by rw [plN_len]; exact hown
  have HPR := Lib.hid (PlRow.of_own hown2)
  have HD5 := Lib.hid (HD3.out.trans (hb5.mono HD3.out.size))
  have HB5 := Lib.hid (HB3.out.trans (hb5.mono HB3.out.size))
  have HLR5 := Lib.hid (HLR3.out.keep hb5)
  obtain ⟨pa, pc, rfl, hpc⟩ := HPR.out.form
  rw [plN_len] at hpc ⊢
  have HPC := Lib.hid hpc
  have hLT : L.length ≤ 12 := by have h1 := HORD.out.1.length_eq; have h2 := HN.out; omega
  have HWT : Hid (∀ x y w', onB wd hg (x, y) = true → Below w5.heap.size w5 w' → Calls Try.prog 57 #[.agg #[.int .i64 wd, .int .i64 hg, .slice oa g.length oc], V, .agg #[.int .i64 x, .int .i64 y], .int .i64 rise, .int .i64 far] w' fun e w'' => e = .returned (.int .u64 (mTo (seI g wd L (x, y) rise far) L.length : Nat)) ∧ Below w'.heap.size w' w'') := Lib.hid (fun x y w' hxy h =>
    watching_any wd hg (.slice oa g.length oc) g V L x y rise far w' (HO.out.keep (HB5.out.trans (h.mono HB5.out.size))) (HLR5.out.keep h) hLT (fun t ht => HOK.out t (HORD.out.1.mem_iff.1 ht)) HM.out hxy HRI.out HFB.out)
  clear hb5 hown hown2 hpc HPR q0 q1 q2 q3 q4 hLT HLR3 HLR5
  go_wp2_with fail
  go_loopw [9, 22] (fun v i wr => ∃ (k : Nat), k ≤ g.length ∧ i = .int .i64 k ∧ Hid (Below w5.heap.size w5 wr) ∧ Hid (wr.ownsRow w5.heap.size 87 1 v k (wdL g wd L rise far k))) (fun _ i _ => g.length - (intOf i).toNat)
  case atStart => exact ⟨0, Nat.zero_le _, rfl, Lib.hid (Below.refl _ _), Lib.hid (World.ownsRow_nil _ _ _ _)⟩
  case round =>
    obtain ⟨k, hk, rfl, hB, hO⟩ := hrel
    have HDR := Lib.hid (HD5.out.trans (hB.out.mono HD5.out.size))
    have HBR := Lib.hid (HB5.out.trans (hB.out.mono HB5.out.size))
    by_cases hkl : k < g.length
    · obtain ⟨pb, po, rfl, _, hpb, c0, c1⟩ := HPC.out k hkl
      have hki : (k : Int) < g.length := by omega
      have hk0 : (0 : Int) ≤ k := by omega
      rw [plN_get hkl] at c0 c1
      have HON := Lib.hid (plI_on HM.out hkl)
      have HSS := Lib.hid (wdL_succ g wd L rise far k)
      have HWK : Hid (wmN g wd L rise far k = mTo (seI g wd L (plI wd k) rise far) L.length) := Lib.hid rfl
      obtain ⟨⟨x, y⟩, hxy⟩ : ∃ q, plI wd k = q := ⟨_, rfl⟩
      rw [hxy] at c0 c1 HON HWK
      simp only at c0 c1
      have e0 := (hB.out.cell (p := ⟨pb, _, none⟩) hpb).trans c0
      have e1 := (hB.out.cell (p := ⟨pb, _, none⟩) hpb).trans c1
      have HWC := Lib.hid (fun w' h => HWT.out x y w' HON.out h)
      obtain ⟨m, hmm⟩ : ∃ m, mTo (seI g wd L (x, y) rise far) L.length = m := ⟨_, rfl⟩
      rw [hmm] at HWC HWK
      rw [HWK.out] at HSS
      have hYY := (Below.refl _ wr).alloc (Nat.le_refl _) (.cells #[.int .i64 x, .int .i64 y] 32)
      have HZD := Lib.hid (HDR.out.trans (hYY.mono HDR.out.size))
      have HZB := Lib.hid (HBR.out.trans (hYY.mono HBR.out.size))
      have HZ5 := Lib.hid (hB.out.trans (hYY.mono hB.out.size))
      have HZO := Lib.hid (own_below hO.out hYY)
      have HZR : Hid ((wr.alloc (.cells #[.int .i64 x, .int .i64 y] 32)).heap[wr.heap.size]? = some (.cells #[.int .i64 x, .int .i64 y] 32 (0, 0))) := Lib.hid (heap_alloc_new _ _)
      obtain ⟨q0, q1, q2, q3, q4⟩ := HRD.out _ HZD.out
      have r0 := cellH HZR.out 0
      have r1 := cellH HZR.out 1
      simp only [List.getElem?_toArray, List.getElem?_cons_zero, List.getElem?_cons_succ] at r0 r1
      clear c0 c1 hxy hpb hmm hYY
      go_wp2_with fail
      refine (HWC.out _ HZ5.out).mono ?_
      rintro e w6 ⟨rfl, hb6⟩
      have HB6 := Lib.hid (HZ5.out.trans (hb6.mono HZ5.out.size))
      have hO6 := own_below HZO.out hb6
      have h63 : k + 1 ≤ maxLen := by unfold maxLen; omega
      have hby : (k + 1) * 8 ≤ 140737488355328 := by omega
      have hbase : w5.heap.size ≤ w6.heap.size := HB6.out.size
      clear hb6 q0 q1 q2 q3 q4 r0 r1 e0 e1
      go_wp2_with (at_builtin; refine wpList_append_own _ rfl _ _ 84 rfl w5.heap.size 87 i0 (.int .u64 0) 1 8 Try.underlying84 hi0 hz0 hz1 hz2 rfl (by decide) _ _ _ rfl (World.ownsRow.alloc hO6 _) ⟨w6.heap.size, 0, none⟩ 1 1 [.int .u64 m] rfl rfl (fun j u h => cell_one' _ _ _ j u h) (by simp [Value.oneCell']) h63 hby (by simp; omega) ?_; intro v' w7 hown' hgrow _)
      have HB7 : Hid (Below w5.heap.size w5 w7) := Lib.hid ((HB6.out.alloc hbase _).grown hgrow (by simp; omega) (fun j e => (World.ownsRow.lt hO6 j e).1))
      have HO7 : Hid (w7.ownsRow w5.heap.size 87 1 v' (k + 1) (wdL g wd L rise far (k + 1))) := Lib.hid (by rw [HSS.out]; exact hown')
      clear hown' hgrow hO6
      go_wp2_with fail
      go_roundw
      case rel => exact ⟨k + 1, by omega, by go_num, HB7, HO7⟩
      case measure => simp [intOf]; omega
    · obtain rfl : k = g.length := by omega
      go_wp2_with fail
      go_ret
      exact ⟨_, L, rfl, HBR.out, HORD.out, own_base hO.out HB5.out.size⟩
end Go.Proofs.Ytnacgogcbbpjmaa

/-! checkView and unwatched of package ridge. -/
set_option linter.unusedVariables false
set_option linter.unusedSimpArgs false
namespace Go.Proofs.Ytnacgogcbbpjmaa
open Go Go.RowKit

/-- The first fault of a country, a height and a minute. -/
def cvE (wd hg : Int) (g : List Int) (T : List Tw) (H : List Hz) (rise tick : Int) : Int := if ckE wd hg g T H = 0 then (if (wiB rise 0 200 && wiB tick 0 1048576) = true then 0 else 1) else ckE wd hg g T H
theorem cvE_ok {wd hg : Int} {g : List Int} {T : List Tw} {H : List Hz} {rise tick : Int} (h : cvE wd hg g T H rise tick = 0) : ckE wd hg g T H = 0 ∧ 0 ≤ rise ∧ rise ≤ 200 := by
  unfold cvE at h
  split at h
  · rename_i h1
    split at h
    · rename_i h2
      simp only [Bool.and_eq_true] at h2
      have h3 := h2.1
      unfold wiB at h3
      simp only [Bool.and_eq_true, decide_eq_true_eq] at h3
      exact ⟨h1, h3⟩
    · cases h
  · rename_i h1; exact absurd h h1
set_option maxRecDepth 100000 in
set_option maxHeartbeats 8000000 in
theorem checkView_any (wd hg : Int) (o tv hv : Value) (g : List Int) (T : List Tw) (H : List Hz) (rise tick : Int) (w : World) (ho : INRow w o g) (hl : g.length ≤ 9223372036854775807) (ht : TwRow w tv T) (htl : T.length ≤ 9223372036854775807) (hh : HzRow w hv H) (hhl : H.length ≤ 9223372036854775807) :
    Calls Try.prog 23 #[coV wd hg o tv hv, .int .i64 rise, .int .i64 tick] w fun e w' => e = .returned (.int .i64 (cvE wd hg g T H rise tick)) ∧ Below w.heap.size w w' := by
  have HC1 := Lib.hid (fun w' (h : Below w.heap.size w w') => Check_any wd hg o tv hv g T H w' (ho.keep h) hl (ht.keep h) htl (hh.keep h) hhl)
  have HVT := Lib.hid (validTall_any rise)
  have HVK := Lib.hid (validTick_any tick)
  have HBA : Hid (∀ ob, Below w.heap.size w (w.alloc ob)) := Lib.hid (fun ob => (Below.refl _ w).alloc (Nat.le_refl _) ob)
  clear ho ht hh hl htl hhl
  unfold cvE
  obtain ⟨E, hE⟩ : ∃ x, ckE wd hg g T H = x := ⟨_, rfl⟩
  rw [hE] at HC1 ⊢
  clear hE
  unfold coV at HC1
  unfold coV
  by_cases hE0 : E = 0
  · subst hE0
    rw [if_pos rfl]
    cases qr : wiB rise 0 200
    · rw [qr] at HVT
      clear qr
      go_enter Try.func23, Try.ntmps23
      go_wp2_with fail
      refine (HC1.out _ (HBA.out _)).mono ?_
      rintro e w2 ⟨rfl, hb2⟩
      have HB2 := Lib.hid ((HBA.out (.cells #[.int .i64 wd, .int .i64 hg, o, tv, hv] 28)).trans (hb2.mono (HBA.out _).size))
      clear hb2
      go_wp2_with fail
      refine (HVT.out _).mono ?_
      rintro e w3 ⟨rfl, rfl⟩
      go_wp2_with fail
      go_ret
      exact ⟨rfl, HB2.out⟩
    · rw [qr] at HVT
      clear qr
      cases qk : wiB tick 0 1048576
      all_goals
        rw [qk] at HVK
        clear qk
        go_enter Try.func23, Try.ntmps23
        go_wp2_with fail
        refine (HC1.out _ (HBA.out _)).mono ?_
        rintro e w2 ⟨rfl, hb2⟩
        have HB2 := Lib.hid ((HBA.out (.cells #[.int .i64 wd, .int .i64 hg, o, tv, hv] 28)).trans (hb2.mono (HBA.out _).size))
        clear hb2
        go_wp2_with fail
        refine (HVT.out _).mono ?_
        rintro e w3 ⟨rfl, rfl⟩
        go_wp2_with fail
        refine (HVK.out _).mono ?_
        rintro e w3 ⟨rfl, rfl⟩
        go_wp2_with fail
        go_ret
        exact ⟨rfl, HB2.out⟩
  · rw [if_neg hE0]
    have qe : (E != 0) = true := by simpa using hE0
    clear hE0
    go_enter Try.func23, Try.ntmps23
    go_wp2_with fail
    refine (HC1.out _ (HBA.out _)).mono ?_
    rintro e w2 ⟨rfl, hb2⟩
    have HB2 := Lib.hid ((HBA.out (.cells #[.int .i64 wd, .int .i64 hg, o, tv, hv] 28)).trans (hb2.mono (HBA.out _).size))
    clear hb2
    go_wp2_with fail
    go_ret
    exact ⟨rfl, HB2.out⟩
theorem own_row1 {w : World} {base : Nat} {e : TypeId} {v : Value} {xs : List Value} (h : w.ownsRow base e 1 v xs.length xs) :
    (v = .slice none 0 0 ∧ xs = []) ∨ ∃ g c, v = .slice (some ⟨g, 0, none⟩) xs.length c ∧ xs.length ≤ c ∧ base ≤ g ∧ g < w.heap.size ∧ ∀ i u, xs[i]? = some u → w.cell? ⟨g, i, none⟩ = some u := by
  rcases h.2 with ⟨h1, h2⟩ | ⟨nb, nc, cur, e1, e2, e3, e4, e5, e6, e7⟩
  · exact .inl ⟨h1, List.eq_nil_of_length_eq_zero h2⟩
  · refine .inr ⟨nb, nc, e1, by omega, e2, (Array.getElem?_eq_some_iff.1 e3).1, fun i u hu => ?_⟩
    have h7 : cur.toList.take xs.length = xs := by simpa using e7
    have hi : i < xs.length := (List.getElem?_eq_some_iff.1 hu).1
    have g1 := hu
    rw [← h7, List.getElem?_take_of_lt hi, Array.getElem?_toList] at g1
    rw [cellH e3]; exact g1
theorem wdL_len (g : List Int) (wd : Int) (L : List Tw) (rise far : Int) (k : Nat) : (wdL g wd L rise far k).length = k := by unfold wdL; simp
theorem wdL_get {g : List Int} {wd : Int} {L : List Tw} {rise far : Int} {n i : Nat} (h : i < n) : (wdL g wd L rise far n)[i]? = some (.int .u64 (wmN g wd L rise far i : Nat)) := by
  unfold wdL; rw [List.getElem?_map, List.getElem?_range h]; rfl
/-- The first places that no tower sees. -/
def dkL (g : List Int) (wd : Int) (L : List Tw) (rise far : Int) : Nat → List Pl
  | 0 => []
  | k + 1 => if wmN g wd L rise far k = 0 then dkL g wd L rise far k ++ [plI wd k] else dkL g wd L rise far k
theorem dkL_len (g : List Int) (wd : Int) (L : List Tw) (rise far : Int) : ∀ k, (dkL g wd L rise far k).length ≤ k
  | 0 => by simp [dkL]
  | k + 1 => by
    have := dkL_len g wd L rise far k
    rw [dkL]; split
    · simp; omega
    · omega
set_option maxRecDepth 100000 in
set_option maxHeartbeats 8000000 in
theorem unwatched_any (wd hg : Int) (o tv hv : Value) (g : List Int) (T : List Tw) (H : List Hz) (rise tick : Int) (w : World) (ho : INRow w o g) (ht : TwRow w tv T) (hh : HzRow w hv H) (hck : ckE wd hg g T H = 0) (hri : 0 ≤ rise ∧ rise ≤ 200) :
    Calls Try.prog 25 #[coV wd hg o tv hv, .int .i64 rise, .int .i64 tick] w fun e w' => ∃ v' L, e = .returned v' ∧ Below w.heap.size w w' ∧ Ord L T ∧ w'.ownsRow w.heap.size 32 2 v' (dkL g wd L rise (faO H tick) g.length).length ((dkL g wd L rise (faO H tick) g.length).flatMap encP) := by
  have HWD := Lib.hid (fun w' (h : Below w.heap.size w w') => watched_any wd hg o tv hv g T H rise tick w' (ho.keep h) (ht.keep h) (hh.keep h) hck hri)
  obtain ⟨hm, _⟩ := ckE_ok hck
  have HM := Lib.hid hm
  have hgm : g.length ≤ 2401 := by
    obtain ⟨a1, a2, a3, a4, a5, _⟩ := vmB_ok hm
    have h1 : wd * hg ≤ 49 * 49 := Int.mul_le_mul a2 a4 (by omega) (by omega)
    omega
  obtain ⟨oa, oc, rfl, _⟩ := ho.form
  obtain ⟨W1, hW1, hb0, hs1, hrd⟩ := co_reads w wd hg (.slice oa g.length oc) tv hv
  have HW1 := Lib.hid hW1; have HB0 := Lib.hid hb0; have HRD := Lib.hid hrd
  have hw9 : 1 ≤ wd ∧ wd ≤ 49 := by obtain ⟨a1, a2, _⟩ := vmB_ok hm; exact ⟨a1, a2⟩
  have HPA := Lib.hid (fun (k : Nat) (hk : k ≤ 2401) w' => placeAt_any wd hg (.slice oa g.length oc) k w' hw9 hk ⟨_, _, _, rfl⟩)
  clear hW1 hb0 hs1 hrd ho ht hh hck hm hri hw9
  obtain ⟨i0, hi0, hz0, hz1, hz2⟩ := info_parts info_pl3
  obtain ⟨far, hfar⟩ : ∃ x, faO H tick = x := ⟨_, rfl⟩
  rw [hfar] at HWD ⊢
  clear hfar
  unfold coV at HWD
  unfold coV
  go_enter Try.func25, Try.ntmps25
  go_wp2_with fail
  rw [← HW1.out]
  obtain ⟨q0, q1, q2, q3, q4⟩ := HRD.out W1 (Below.refl _ _)
  go_wp2_with fail
  refine (HWD.out _ HB0.out).mono ?_
  rintro e w5 ⟨v5, L, rfl, hb5, hO, hown⟩
  have HORD := Lib.hid hO
  have HD5 := Lib.hid hb5
  have HB5 := Lib.hid (HB0.out.trans (hb5.mono HB0.out.size))
  have hrow : ∃ a c, v5 = .slice a g.length c ∧ ∀ i, i < g.length → ∃ b off, a = some ⟨b, off, none⟩ ∧ b < w5.heap.size ∧ w5.cell? ⟨b, off + i, none⟩ = some (.int .u64 (wmN g wd L rise far i : Nat)) := by
    have h1 : w5.ownsRow W1.heap.size 87 1 v5 (wdL g wd L rise far g.length).length (wdL g wd L rise far g.length) := by rw [wdL_len]; exact hown
    rcases own_row1 h1 with ⟨rfl, h2⟩ | ⟨b, c, h2, _, _, h4, h5⟩
    · have h3 : g.length = 0 := by rw [← wdL_len g wd L rise far g.length, h2]; rfl
      rw [h3]
      exact ⟨_, _, rfl, fun i hi => by omega⟩
    · rw [wdL_len] at h2
      exact ⟨_, _, h2, fun i hi => ⟨b, 0, rfl, h4, by rw [Nat.zero_add]; exact h5 i _ (wdL_get hi)⟩⟩
  obtain ⟨pa, pc, rfl, hpc⟩ := hrow
  have HPC := Lib.hid hpc
  clear hb5 hO hown hpc q0 q1 q2 q3 q4
  go_wp2_with fail
  go_loopw [7, 15] (fun v i wr => ∃ (k : Nat), k ≤ g.length ∧ i = .int .i64 k ∧ Hid (Below w5.heap.size w5 wr) ∧ Hid (wr.ownsRow w5.heap.size 32 2 v (dkL g wd L rise far k).length ((dkL g wd L rise far k).flatMap encP))) (fun _ i _ => g.length - (intOf i).toNat)
  case atStart => exact ⟨0, Nat.zero_le _, rfl, Lib.hid (Below.refl _ _), Lib.hid (World.ownsRow_nil _ _ _ _)⟩
  case round =>
    obtain ⟨k, hk, rfl, hB, hO⟩ := hrel
    have HDR := Lib.hid (HD5.out.trans (hB.out.mono HD5.out.size))
    have HBR := Lib.hid (HB5.out.trans (hB.out.mono HB5.out.size))
    by_cases hkl : k < g.length
    · obtain ⟨pb, po, rfl, hpb, c0⟩ := HPC.out k hkl
      have hki : (k : Int) < g.length := by omega
      have hk0 : (0 : Int) ≤ k := by omega
      have e0 := (hB.out.cell (p := ⟨pb, _, none⟩) hpb).trans c0
      have HLN := Lib.hid (dkL_len g wd L rise far k)
      obtain ⟨q0, q1, q2, q3, q4⟩ := HRD.out _ HDR.out
      by_cases hz : wmN g wd L rise far k = 0
      · have HN : Hid (dkL g wd L rise far (k + 1) = dkL g wd L rise far k ++ [plI wd k]) := Lib.hid (by rw [dkL, if_pos hz])
        rw [hz] at e0
        have HPK := Lib.hid (HPA.out k (by omega))
        obtain ⟨⟨x, y⟩, hxy⟩ : ∃ q, plI wd k = q := ⟨_, rfl⟩
        rw [hxy] at HN HPK
        obtain ⟨dl, hdl⟩ : ∃ l, dkL g wd L rise far k = l := ⟨_, rfl⟩
        rw [hdl] at HN hO HLN
        have hlen := HLN.out
        have h63 : dl.length + 1 ≤ maxLen := by unfold maxLen; omega
        have hby : (dl.length + 1) * 16 ≤ 140737488355328 := by omega
        clear hxy hdl c0 hpb hlen hz
        go_wp2_with fail
        refine (HPK.out _).mono ?_
        rintro e w6 ⟨rfl, hb6⟩
        have HB6 := Lib.hid (hB.out.trans (hb6.mono hB.out.size))
        have hO6 := own_below hO.out hb6
        have hbase : w5.heap.size ≤ w6.heap.size := HB6.out.size
        clear hb6 q0 q1 q2 q3 q4 e0
        go_wp2_with (at_builtin; refine wpList_append_own _ rfl _ _ 40 rfl w5.heap.size 32 i0 (.agg #[.int .i64 0, .int .i64 0]) 2 16 Try.underlying40 hi0 hz0 hz1 hz2 rfl (by decide) _ _ _ rfl (World.ownsRow.alloc hO6 _) ⟨w6.heap.size, 0, none⟩ 1 1 [.int .i64 x, .int .i64 y] rfl rfl (fun j u h => cell_two' _ _ _ _ j u h) (by simp [Value.oneCell']) h63 hby (by simp; omega) ?_; intro v' w7 hown' hgrow _)
        have HB7 : Hid (Below w5.heap.size w5 w7) := Lib.hid ((HB6.out.alloc hbase _).grown hgrow (by simp; omega) (fun j e => (World.ownsRow.lt hO6 j e).1))
        have HO7 : Hid (w7.ownsRow w5.heap.size 32 2 v' (dkL g wd L rise far (k + 1)).length ((dkL g wd L rise far (k + 1)).flatMap encP)) := Lib.hid (by
          rw [HN.out, List.length_append, List.flatMap_append]; exact hown')
        clear hown' hgrow hO6
        go_wp2_with fail
        go_roundw
        case rel => exact ⟨k + 1, by omega, by go_num, HB7, HO7⟩
        case measure => simp [intOf]; omega
      · have HN : Hid (dkL g wd L rise far (k + 1) = dkL g wd L rise far k) := Lib.hid (by rw [dkL, if_neg hz])
        have hnz : ((wmN g wd L rise far k : Nat) : Int) ≠ 0 := by omega
        obtain ⟨m, hmm⟩ : ∃ m, ((wmN g wd L rise far k : Nat) : Int) = m := ⟨_, rfl⟩
        rw [hmm] at e0 hnz
        have hO9 : Hid (wr.ownsRow w5.heap.size 32 2 u7 (dkL g wd L rise far (k + 1)).length ((dkL g wd L rise far (k + 1)).flatMap encP)) := Lib.hid (by rw [HN.out]; exact hO.out)
        clear hz hmm c0 hpb
        go_wp2_with fail
        go_roundw
        case rel => exact ⟨k + 1, by omega, by go_num, hB, hO9⟩
        case measure => simp [intOf]; omega
    · obtain rfl : k = g.length := by omega
      go_wp2_with fail
      go_ret
      exact ⟨_, L, rfl, HBR.out, HORD.out, own_base hO.out HB5.out.size⟩
end Go.Proofs.Ytnacgogcbbpjmaa
