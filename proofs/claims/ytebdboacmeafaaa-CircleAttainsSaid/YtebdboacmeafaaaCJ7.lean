/- The law CircleAttains. -/
import Derived.Test.YtebdboacmeafaaaCJ5
import Derived.Test.YtebdboacmeafaaaCJ6
set_option linter.unusedVariables false
set_option linter.unusedSimpArgs false
namespace Go.Proofs.Ytebdboacmeafaaa
open Go Go.RowKit

/-- The worlds and frames in a region. -/
def AtInv (W : World) (bo bl bh lb lf lc hb hf hc N k : Nat) (id lo A1 A2 VV : Int) (v5 : Value) (n : Nat) (xs : List Value) (u0 u1 u2 u3 u4 u5 u6 u7 u8 u9 u10 u12 u14 u15 u16 u17 u18 u19 u20 u21 u22 u23 u27 u28 u29 u30 u31 u32 u33 u34 u35 u36 u37 u38 u39 u40 u41 u42 u43 u44 u45 u46 u47 u48 u49 u50 u51 u52 u53 u54 u55 u56 u57 u58 u59 u60 u61 u62 u63 u64 u65 u66 u67 u68 u69 u70 u71 u72 u73 u74 u75 u76 u77 u78 u79 u80 u81 u82 u83 u84 u85 u86 u87 u88 u89 u90 u91 u92 u93 u94 u95 u96 u97 u98 u99 u100 u101 u102 u103 u104 u105 u106 u107 u108 u109 u110 u111 u112 u113 u114 u115 u116 u117 u118 u119 u120 u121 u122 u123 u124 u125 u126 u127 u128 u129 u130 u131 u132 u133 u134 u135 u136 u137 u138 u139 u140 u141 u142 u143 u144 u145 u146 u147 u148 u149 u150 u151 u152 u153 u154 u155 u156 u157 u158 u159 u160 u161 u162 u163 u164 u165 u166 u167 u168 u169 u170 u171 u172 u173 u174 u175 u176 u177 u178 u179 u180 u181 u182 u183 u184 u185 u186 u187 u188 u189 u190 u191 u192 u193 u194 u195 u196 u197 u198 u199 u200 u201 u202 u203 u204 u205 u206 u207 u208 u209 u210 u211 u212 u213 u214 u215 u216 u217 u218 u219 u220 u221 u222 u223 u224 u225 u226 u227 u228 u229 u230 u231 u232 u233 u234 u235 u236 u237 u238 u239 u240 u241 u242 u243 u244 u245 u246 u247 u248 u249 u250 u251 u252 u253 u254 u255 u256 u257 u258 u259 u260 : Value) (listed : Array Bool) (a : Act) (w' : World) : Prop :=
  ∃ (l0 l1 l2 l3 l4 l5 l6 l7 l8 l9 l10 l11 l12 l13 l14 l15 l16 l17 l18 : Bool) (A : Nat) (V : Value), listed = #[l0, l1, l2, l3, l4, l5, l6, l7, l8, l9, l10, l11, l12, l13, l14, l15, l16, l17, l18] ∧ a = { tmps := #[u0, u1, u2, u3, u4, u5, u6, u7, u8, u9, u10, .pointer (some ⟨bl, 0, none⟩), u12, .pointer (some ⟨bh, 0, none⟩), u14, u15, u16, u17, u18, u19, u20, u21, u22, u23, .int .i64 VV, .pointer (some ⟨bo, 0, none⟩), .int .i64 (k : Nat), u27, u28, u29, u30, u31, u32, u33, u34, u35, u36, u37, u38, u39, u40, u41, u42, u43, u44, u45, u46, u47, u48, u49, u50, u51, u52, u53, u54, u55, u56, u57, u58, u59, u60, u61, u62, u63, u64, u65, u66, u67, u68, u69, u70, u71, u72, u73, u74, u75, u76, u77, u78, u79, u80, u81, u82, u83, u84, u85, u86, u87, u88, u89, u90, u91, u92, u93, u94, u95, u96, u97, u98, u99, u100, u101, u102, u103, u104, u105, u106, u107, u108, u109, u110, u111, u112, u113, u114, u115, u116, u117, u118, u119, u120, u121, u122, u123, u124, u125, u126, u127, u128, u129, u130, u131, u132, u133, u134, u135, u136, u137, u138, u139, u140, u141, u142, u143, u144, u145, u146, u147, u148, u149, u150, u151, u152, u153, u154, u155, u156, u157, u158, u159, u160, u161, u162, u163, u164, u165, u166, u167, u168, u169, u170, u171, u172, u173, u174, u175, u176, u177, u178, u179, u180, u181, u182, u183, u184, u185, u186, u187, u188, u189, u190, u191, u192, u193, u194, u195, u196, u197, u198, u199, u200, u201, u202, u203, u204, pkIf l0 (.pointer (some ⟨bo, 2, none⟩)) (u205), pkIf l1 (v5) (u206), pkIf l2 (.pointer (some ⟨bl, 2, none⟩)) (u207), pkIf l3 (.slice (some ⟨lb, lf, none⟩) N lc) (u208), pkIf l4 (.int .i64 (k : Nat)) (u209), pkIf l5 (.pointer (some ⟨lb, lf + k, none⟩)) (u210), pkIf l6 (.int .i64 A1) (u211), pkIf l7 (.pointer (some ⟨bh, 2, none⟩)) (u212), pkIf l8 (.slice (some ⟨hb, hf, none⟩) N hc) (u213), pkIf l9 (.int .i64 (k : Nat)) (u214), pkIf l10 (.pointer (some ⟨hb, hf + k, none⟩)) (u215), pkIf l11 (.int .i64 A2) (u216), pkIf l12 (.int .i64 VV) (u217), pkIf l13 (.int .i64 (min A2 VV)) (u218), pkIf l14 (.int .i64 (max A1 (min A2 VV))) (u219), pkIf l15 (.slice (some ⟨A, 0, none⟩) 1 1) (u220), pkIf l16 (V) (u221), pkIf l17 (.pointer (some ⟨bo, 2, none⟩)) (u222), u223, u224, u225, u226, u227, u228, u229, u230, u231, u232, u233, u234, u235, u236, u237, u238, u239, u240, u241, u242, u243, u244, u245, u246, u247, u248, u249, u250, u251, u252, u253, u254, u255, u256, u257, u258, u259, u260], defers := [] } ∧ Below W.heap.size W w' ∧ w'.ownsRow W.heap.size 3 1 (if l16 = true then V else v5) (if l16 = true then n + 1 else n) (if l16 = true then xs ++ [.int .i64 (max A1 (min A2 VV))] else xs) ∧ (l15 = true → l16 = false → w'.heap[A]? = some (.cells #[.int .i64 (max A1 (min A2 VV))] 3 (0, 0)) ∧ v5.ownBlock ≠ some A) ∧ (l16 = true → l15 = true) ∧ (l18 = true → l16 = true) ∧ (l16 = true → l1 = true) ∧ w'.heap[bo]? = some (.cells #[.int .i64 id, .int .i64 lo, (if l18 = true then V else v5)] 33 (0, 0))
/-- A store into a row of the function's own. -/
theorem OwI.put {w : World} {B g n cap k : Nat} {l : List Int} (h : OwI w B (.slice (some ⟨g, 0, none⟩) n cap) l) (hk : k < l.length) (x : Int) : OwI (w.setCell ⟨g, k, none⟩ (.int .i64 x)) B (.slice (some ⟨g, 0, none⟩) n cap) (l.set k x) := by
  rcases h with ⟨h1, ⟨h2, _⟩ | ⟨g', cap', cur, hv, hB, hg, hnc, hcm, hsz, ht⟩⟩
  · cases h2
  · cases hv
    refine ⟨by simp, .inr ⟨g, cap, cur.setIfInBounds k (.int .i64 x), by rw [List.length_set], hB, heap_same hg k _, by rw [List.length_set]; exact hnc, hcm, by simpa using hsz, ?_⟩⟩
    rw [List.length_set, Array.toList_setIfInBounds, List.take_set, ht, List.map_set]
theorem OwI.cellAt {w : World} {B g n cap k : Nat} {l : List Int} (h : OwI w B (.slice (some ⟨g, 0, none⟩) n cap) l) (hk : k < l.length) : w.cell? ⟨g, k, none⟩ = some (.int .i64 (l.getD k 0)) ∧ (∀ o, w.frozen? ⟨g, o, none⟩ = false) ∧ B ≤ g ∧ k < cap := by
  rcases h with ⟨h1, ⟨h2, _⟩ | ⟨g', cap', cur, hv, hB, hg, hnc, hcm, hsz, ht⟩⟩
  · cases h2
  · cases hv
    refine ⟨?_, freeH hg, hB, by omega⟩
    rw [cellH hg, ← Array.getElem?_toList]
    have : cur.toList[k]? = (l.map (Value.int .i64))[k]? := by rw [← ht, List.getElem?_take_of_lt (by omega)]
    rw [this, List.getElem?_map, List.getElem?_eq_getElem hk, List.getD_eq_getElem?_getD, List.getElem?_eq_getElem hk]; rfl
theorem OwI.some {w : World} {B n cap : Nat} {a : Option Addr} {l : List Int} (h : OwI w B (.slice a n cap) l) (hn : 0 < l.length) : ∃ g, a = some ⟨g, 0, none⟩ := by
  rcases h with ⟨h1, ⟨h2, h0⟩ | ⟨g', cap', cur, hv, _⟩⟩
  · omega
  · cases hv; exact ⟨_, rfl⟩
theorem INRow.at {w : World} {a : Option Addr} {n c : Nat} {l : List Int} (h : INRow w (.slice a n c) l) (k : Nat) (hk : k < l.length) : ∃ b off, a = some ⟨b, off, none⟩ ∧ b < w.heap.size ∧ w.cell? ⟨b, off + k, none⟩ = some (.int .i64 (l.getD k 0)) := by
  obtain ⟨a', c', hv, hat⟩ := h.form
  cases hv
  exact hat k hk
set_option maxRecDepth 100000 in
set_option maxHeartbeats 8000000 in
theorem attains_ok (v1 v2 : Value) (cs : List Ci) (ks : List Ck) (id lo hi at_ n : Int) (w : World) (hv1 : CiRow w v1 cs) (hv2 : CkRow w v2 ks) (hl1 : cs.length ≤ 9223372036854775807) (hl2 : ks.length ≤ 9223372036854775807) (hid : -9223372036854775808 ≤ id ∧ id ≤ 9223372036854775807) (hlo : -9223372036854775808 ≤ lo ∧ lo ≤ 9223372036854775807) (hhi : -9223372036854775808 ≤ hi ∧ hi ≤ 9223372036854775807) (hat : 0 ≤ at_ ∧ at_ ≤ 65535) (hnr : 0 ≤ n ∧ n ≤ 65535) (hb1 : fwB cs.length ks.length = true) (hq1 : 0 ≤ lo ∧ hi ≤ 1048576 ∧ lo ≤ hi ∧ hi - lo < 60) (he1 : snE cs ks id lo hi = 0) :
    Calls Try.prog 3 #[.agg #[v1, v2], .int .i64 id, .agg #[.int .i64 lo, .int .i64 hi], .int .u16 at_, .int .u16 n] w fun e w' => e = .returned (.bool true) ∧ Below w.heap.size w w' := by
  obtain ⟨a1, c1, rfl, _⟩ := hv1.form
  obtain ⟨a2, c2, rfl, _⟩ := hv2.form
  have HB1 := Lib.hid hb1
  have HQ1 := Lib.hid hq1
  have HE1 := Lib.hid he1
  have HAT := Lib.hid hat
  have HNR := Lib.hid hnr
  have HF := Lib.hid (fun w' => few_any a1 a2 cs.length c1 ks.length c2 w')
  have HLW := Lib.hid (fun w' (h : Below w.heap.size w w') => Lowest_any (.slice a1 cs.length c1) (.slice a2 ks.length c2) cs ks id lo hi w' (hv1.keep h) (hv2.keep h) hl1 hl2)
  have HHW := Lib.hid (fun w' (h : Below w.heap.size w w') => Highest_any (.slice a1 cs.length c1) (.slice a2 ks.length c2) cs ks id lo hi w' (hv1.keep h) (hv2.keep h) hl1 hl2)
  have HCL := Lib.hid (fun w' (h : Below w.heap.size w w') => Clashes_any (.slice a1 cs.length c1) (.slice a2 ks.length c2) cs ks w' (hv1.keep h) (hv2.keep h) hl1 hl2)
  have HFT := Lib.hid (fun zv zl w' (h : Below w.heap.size w w') (hz : INRow w' zv zl) (hc : P2Cap zv) (hn : zl.length ≤ 60) (hb : 0 ≤ lo ∧ lo ≤ 1048576) => Fits_any (.slice a1 cs.length c1) (.slice a2 ks.length c2) zv cs ks id lo zl w' (hv1.keep h) (hv2.keep h) hz hc hl1 hl2 (by omega) (by omega))
  have HZR := Lib.hid (fun t w' (h : Below w.heap.size w w') => Zero_any (.slice a1 cs.length c1) (.slice a2 ks.length c2) cs ks id t w' (hv1.keep h) (hv2.keep h) hl1 hl2)
  have H5 := Lib.hid (fun w' => sanity_any w')
  have HOK := Lib.hid (sn_ok (cs := cs) (ks := ks) (id := id) (lo := lo) (hi := hi))
  have HAF := Lib.hid (fun h z hz => at_fits (cs := cs) (ks := ks) (id := id) (lo := lo) (hi := hi) (z := z) h hz)
  have HAZ := Lib.hid (fun h z hz j => at_zero (cs := cs) (ks := ks) (id := id) (lo := lo) (hi := hi) (z := z) h hz (j := j))
  have HAE := Lib.hid (fun h z hz j => at_le (cs := cs) (ks := ks) (id := id) (lo := lo) (hi := hi) (z := z) h hz (j := j))
  have HAB := Lib.hid (fun h z hz j => at_bd (cs := cs) (ks := ks) (id := id) (lo := lo) (hi := hi) (z := z) h hz (j := j))
  have HAN := Lib.hid (fun h z hz k zl => at_no (cs := cs) (ks := ks) (id := id) (lo := lo) (hi := hi) (z := z) h hz (k := k) (zl := zl))
  have HAC := Lib.hid (at_clash (cs := cs) (ks := ks) (id := id) (lo := lo) (hi := hi))
  unfold EnOut at HLW HHW
  unfold ClOut at HCL
  obtain ⟨E, hE⟩ : ∃ q, snE cs ks id lo hi = q := ⟨_, rfl⟩
  obtain ⟨F, hF⟩ : ∃ q, ciF cs id = q := ⟨_, rfl⟩
  obtain ⟨CE, hCE⟩ : ∃ q, ccE cs ks = q := ⟨_, rfl⟩
  obtain ⟨PL, hPL⟩ : ∃ q, clK cs ks cs.length = q := ⟨_, rfl⟩
  simp only [hE, hF] at HLW HHW HOK HAF HAZ HAE HAN HAB HAC
  simp only [hCE, hPL] at HCL HOK HAC
  obtain ⟨B0, hB0⟩ : ∃ B, fwB cs.length ks.length = B := ⟨_, rfl⟩
  rw [hB0] at HF HB1
  rw [hE] at HE1
  obtain ⟨i0, hi0, hz0, hz1, hz2⟩ := info_parts info_in1
  clear hv1 hv2 hl1 hl2 hE hF hCE hPL hB0 hat hnr hb1 hq1 he1
  obtain ⟨x0, x1, xlt, xb⟩ := two_cells w #[.slice a1 cs.length c1, .slice a2 ks.length c2] #[.int .i64 lo, .int .i64 hi] 25 27 (Below.refl _ _)
  have HNc : Hid (((w.alloc (.cells #[.slice a1 cs.length c1, .slice a2 ks.length c2] 25)).alloc (.cells #[.int .i64 lo, .int .i64 hi] 27)).heap[w.heap.size]? = some (.cells #[.slice a1 cs.length c1, .slice a2 ks.length c2] 25 (0, 0))) := Lib.hid x0
  have HNt : Hid (((w.alloc (.cells #[.slice a1 cs.length c1, .slice a2 ks.length c2] 25)).alloc (.cells #[.int .i64 lo, .int .i64 hi] 27)).heap[w.heap.size + 1]? = some (.cells #[.int .i64 lo, .int .i64 hi] 27 (0, 0))) := Lib.hid x1
  have HB : Hid (Below w.heap.size w ((w.alloc (.cells #[.slice a1 cs.length c1, .slice a2 ks.length c2] 25)).alloc (.cells #[.int .i64 lo, .int .i64 hi] 27))) := Lib.hid xb
  obtain ⟨Z, hZ⟩ : ∃ Z, ((w.alloc (.cells #[.slice a1 cs.length c1, .slice a2 ks.length c2] 25)).alloc (.cells #[.int .i64 lo, .int .i64 hi] 27)) = Z := ⟨_, rfl⟩
  rw [hZ] at HB HNc HNt
  have HZ := Lib.hid hZ
  clear hZ xlt xb x0 x1
  go_enter Try.func3, Try.ntmps3
  go_wp2_with fail
  rw [HZ.out]
  refine (HF.out _).mono ?_
  rintro e w1 ⟨rfl, hb⟩
  replace HB := Lib.hid (HB.out.trans (hb.mono HB.out.size))
  replace HNc := Lib.hid ((hb.block _ (Array.getElem?_eq_some_iff.1 HNc.out).1).trans HNc.out)
  replace HNt := Lib.hid ((hb.block _ (Array.getElem?_eq_some_iff.1 HNt.out).1).trans HNt.out)
  clear hb
  obtain rfl := HB1.out
  have q0 : ¬ lo < 0 := by have := HQ1.out; omega
  have q1 : ¬ 1048576 < hi := by have := HQ1.out; omega
  have q2 : ¬ hi < lo := by have := HQ1.out; omega
  have gw0 : IntKind.i64.wrap (hi - lo) = hi - lo := IntWalk.i64_in _ (by omega)
  have q3 : ¬ 60 ≤ hi - lo := by have := HQ1.out; omega
  have HQB := Lib.hid (show 0 ≤ lo ∧ hi ≤ 1048576 ∧ lo ≤ hi ∧ hi - lo < 60 by omega)
  have zc0 := cellH HNc.out 0
  have zc1 := cellH HNc.out 1
  have zt0 := cellH HNt.out 0
  have zt1 := cellH HNt.out 1
  simp only [List.getElem?_toArray, List.getElem?_cons_zero, List.getElem?_cons_succ] at zc0 zc1 zt0 zt1
  go_wp2_with fail
  refine (HLW.out _ HB.out).mono ?_
  rintro e w2 ⟨hb, h1, h2⟩
  clear zc0 zc1 zt0 zt1
  clear q0 q1 q2 q3 gw0
  replace HB := Lib.hid (HB.out.trans (hb.mono HB.out.size))
  replace HNc := Lib.hid ((hb.block _ (Array.getElem?_eq_some_iff.1 HNc.out).1).trans HNc.out)
  replace HNt := Lib.hid ((hb.block _ (Array.getElem?_eq_some_iff.1 HNt.out).1).trans HNt.out)
  clear hb
  have h0 := HE1.out
  have hh := h2 h0
  unfold EnHit at hh
  obtain ⟨z, v, hz, rfl, hr⟩ := hh
  obtain ⟨z', hz', hcc, hb, _, hct, hd⟩ := HOK.out h0
  obtain rfl : z = z' := Option.some.inj (hz.symm.trans hz')
  have HZ8 := Lib.hid hz
  have HBB := Lib.hid hb
  replace HAF := Lib.hid (HAF.out h0 z hz)
  replace HAZ := Lib.hid (HAZ.out h0 z hz)
  replace HAE := Lib.hid (HAE.out h0 z hz)
  replace HAN := Lib.hid (HAN.out h0 z hz)
  replace HAB := Lib.hid (HAB.out h0 z hz)
  obtain ⟨L, hL⟩ : ∃ q, dlL z ks = q := ⟨_, rfl⟩
  obtain ⟨dr, hdr⟩ : ∃ q, z.dr = q := ⟨_, rfl⟩
  obtain ⟨N, hN⟩ : ∃ q, (hi - lo + 1).toNat = q := ⟨_, rfl⟩
  simp only [hL, hdr, hN] at HAF HAZ HAE HAN HAB hr
  have HDD := Lib.hid (show dlL z ks = L ∧ z.dr = dr ∧ (hi - lo + 1).toNat = N from ⟨hL, hdr, hN⟩)
  have hqb := HQB.out
  have HNN := Lib.hid (show (N : Int) = hi - lo + 1 ∧ 1 ≤ N ∧ N ≤ 60 by omega)
  obtain ⟨LL, hLL⟩ : ∃ q, (spN dr L lo N).map (fun p => p.1) = q := ⟨_, rfl⟩
  obtain ⟨LH, hLH⟩ : ∃ q, (spN dr L lo N).map (fun p => p.2) = q := ⟨_, rfl⟩
  have HLN := Lib.hid (show LL.length = N ∧ LH.length = N by rw [← hLL, ← hLH]; exact ⟨at_len, at_len⟩)
  have HLA := Lib.hid (fun j (hj : j < N) => show LL.getD j 0 = spLo dr L (lo + j) ∧ LH.getD j 0 = spHi dr L (lo + j) by rw [← hLL, ← hLH]; exact ⟨at_lo j hj, at_hi j hj⟩)
  rw [hLL] at HAF hr
  rw [hLH] at HAF
  have HLH := Lib.hid hLH
  obtain ⟨la, lc, rfl⟩ := row_formC hr
  have HCP := Lib.hid (OwI.cap hr)
  have HRL := Lib.hid (OwI.row hr)
  rw [HLN.out.1] at HCP HRL ⊢
  subst h0
  subst hcc
  clear hz hz' hb hct hd hL hdr hN hLL hLH hr h1 h2 hqb HOK HAC
  have hAlc : Below w2.heap.size w2 (w2.alloc (.cells #[.int .i64 id, .int .i64 lo, .slice la N lc] 33)) := (Below.refl _ w2).alloc (Nat.le_refl _) _
  have HSlz : Hid (w.heap.size ≤ w2.heap.size) := Lib.hid HB.out.size
  have HNlz : Hid ((w2.alloc (.cells #[.int .i64 id, .int .i64 lo, .slice la N lc] 33)).heap[w2.heap.size]? = some (.cells #[.int .i64 id, .int .i64 lo, .slice la N lc] 33 (0, 0))) := Lib.hid (heap_alloc_new _ _)
  replace HB := Lib.hid (HB.out.trans (hAlc.mono HB.out.size))
  have HXc_lz : Hid (w.heap.size ≠ w2.heap.size) := Lib.hid (Nat.ne_of_lt (Array.getElem?_eq_some_iff.1 HNc.out).1)
  have HXt_lz : Hid (w.heap.size + 1 ≠ w2.heap.size) := Lib.hid (Nat.ne_of_lt (Array.getElem?_eq_some_iff.1 HNt.out).1)
  replace HNc := Lib.hid ((hAlc.block _ (Array.getElem?_eq_some_iff.1 HNc.out).1).trans HNc.out)
  replace HNt := Lib.hid ((hAlc.block _ (Array.getElem?_eq_some_iff.1 HNt.out).1).trans HNt.out)
  replace HRL := Lib.hid (HRL.out.keep hAlc)
  obtain ⟨alz, halz⟩ : ∃ qq, w2.alloc (.cells #[.int .i64 id, .int .i64 lo, .slice la N lc] 33) = qq := ⟨_, rfl⟩
  obtain ⟨bklz, hblz⟩ : ∃ qq, w2.heap.size = qq := ⟨_, rfl⟩
  rw [halz] at HB HNlz HNc HNt HRL
  rw [hblz] at HNlz HSlz HXc_lz HXt_lz
  clear hAlc
  have zc0 := cellH HNc.out 0
  have zc1 := cellH HNc.out 1
  have zt0 := cellH HNt.out 0
  have zt1 := cellH HNt.out 1
  simp only [List.getElem?_toArray, List.getElem?_cons_zero, List.getElem?_cons_succ] at zc0 zc1 zt0 zt1
  go_wp2_with fail
  try clear halz hblz
  refine (HHW.out _ HB.out).mono ?_
  rintro e w14 ⟨hb, _, h2⟩
  clear zc0 zc1 zt0 zt1
  replace HB := Lib.hid (HB.out.trans (hb.mono HB.out.size))
  replace HNc := Lib.hid ((hb.block _ (Array.getElem?_eq_some_iff.1 HNc.out).1).trans HNc.out)
  replace HNt := Lib.hid ((hb.block _ (Array.getElem?_eq_some_iff.1 HNt.out).1).trans HNt.out)
  replace HNlz := Lib.hid ((hb.block _ (Array.getElem?_eq_some_iff.1 HNlz.out).1).trans HNlz.out)
  replace HRL := Lib.hid (HRL.out.keep hb)
  clear hb
  have hh := h2 (by first | rfl | trivial)
  unfold EnHit at hh
  obtain ⟨z2, v, hz2, rfl, hr⟩ := hh
  obtain rfl : z = z2 := Option.some.inj (HZ8.out.symm.trans hz2)
  simp only [HDD.out.1, HDD.out.2.1, HDD.out.2.2] at hr
  rw [HLH.out] at hr
  obtain ⟨ha, hc, rfl⟩ := row_formC hr
  have HCQ := Lib.hid (OwI.cap hr)
  have HRH := Lib.hid (OwI.row hr)
  rw [HLN.out.2] at HCQ HRH ⊢
  clear hz2 hr h2 HLW HHW
  have hAlc : Below w14.heap.size w14 (w14.alloc (.cells #[.int .i64 id, .int .i64 lo, .slice ha N hc] 33)) := (Below.refl _ w14).alloc (Nat.le_refl _) _
  have HShz : Hid (w.heap.size ≤ w14.heap.size) := Lib.hid HB.out.size
  have HNhz : Hid ((w14.alloc (.cells #[.int .i64 id, .int .i64 lo, .slice ha N hc] 33)).heap[w14.heap.size]? = some (.cells #[.int .i64 id, .int .i64 lo, .slice ha N hc] 33 (0, 0))) := Lib.hid (heap_alloc_new _ _)
  replace HB := Lib.hid (HB.out.trans (hAlc.mono HB.out.size))
  have HXc_hz : Hid (w.heap.size ≠ w14.heap.size) := Lib.hid (Nat.ne_of_lt (Array.getElem?_eq_some_iff.1 HNc.out).1)
  have HXt_hz : Hid (w.heap.size + 1 ≠ w14.heap.size) := Lib.hid (Nat.ne_of_lt (Array.getElem?_eq_some_iff.1 HNt.out).1)
  have HXlz_hz : Hid (bklz ≠ w14.heap.size) := Lib.hid (Nat.ne_of_lt (Array.getElem?_eq_some_iff.1 HNlz.out).1)
  replace HNc := Lib.hid ((hAlc.block _ (Array.getElem?_eq_some_iff.1 HNc.out).1).trans HNc.out)
  replace HNt := Lib.hid ((hAlc.block _ (Array.getElem?_eq_some_iff.1 HNt.out).1).trans HNt.out)
  replace HNlz := Lib.hid ((hAlc.block _ (Array.getElem?_eq_some_iff.1 HNlz.out).1).trans HNlz.out)
  replace HRL := Lib.hid (HRL.out.keep hAlc)
  replace HRH := Lib.hid (HRH.out.keep hAlc)
  obtain ⟨ahz, hahz⟩ : ∃ qq, w14.alloc (.cells #[.int .i64 id, .int .i64 lo, .slice ha N hc] 33) = qq := ⟨_, rfl⟩
  obtain ⟨bkhz, hbhz⟩ : ∃ qq, w14.heap.size = qq := ⟨_, rfl⟩
  rw [hahz] at HB HNhz HNc HNt HNlz HRL HRH
  rw [hbhz] at HNhz HShz HXc_hz HXt_hz HXlz_hz
  clear hAlc
  have zc0 := cellH HNc.out 0
  have zc1 := cellH HNc.out 1
  simp only [List.getElem?_toArray, List.getElem?_cons_zero, List.getElem?_cons_succ] at zc0 zc1
  go_wp2_with fail
  try clear hahz hbhz
  refine (HCL.out _ HB.out).mono ?_
  rintro e w15 ⟨hb, _, k2⟩
  obtain ⟨cv, rfl, hcp⟩ := k2 (by first | rfl | trivial)
  obtain ⟨pa, pc, rfl, _⟩ := hcp.form
  clear hcp k2
  clear zc0 zc1
  replace HB := Lib.hid (HB.out.trans (hb.mono HB.out.size))
  replace HNc := Lib.hid ((hb.block _ (Array.getElem?_eq_some_iff.1 HNc.out).1).trans HNc.out)
  replace HNt := Lib.hid ((hb.block _ (Array.getElem?_eq_some_iff.1 HNt.out).1).trans HNt.out)
  replace HNlz := Lib.hid ((hb.block _ (Array.getElem?_eq_some_iff.1 HNlz.out).1).trans HNlz.out)
  replace HNhz := Lib.hid ((hb.block _ (Array.getElem?_eq_some_iff.1 HNhz.out).1).trans HNhz.out)
  replace HRL := Lib.hid (HRL.out.keep hb)
  replace HRH := Lib.hid (HRH.out.keep hb)
  clear hb
  have hbb := HBB.out
  have hnn := HNN.out
  have H1F := Lib.hid (fun w' h1 h2 => HFT.out (.slice la N lc) LL w' h1 h2 HCP.out (by rw [HLN.out.1]; omega) (by omega))
  have H2F := Lib.hid (fun w' h1 h2 => HFT.out (.slice ha N hc) LH w' h1 h2 HCQ.out (by rw [HLN.out.2]; omega) (by omega))
  rw [HAF.out.1] at H1F
  rw [HAF.out.2.1] at H2F
  clear hbb hnn
  have zc0 := cellH HNc.out 0
  have zc1 := cellH HNc.out 1
  have zlz0 := cellH HNlz.out 0
  have zlz1 := cellH HNlz.out 1
  have zlz2 := cellH HNlz.out 2
  simp only [List.getElem?_toArray, List.getElem?_cons_zero, List.getElem?_cons_succ] at zc0 zc1 zlz0 zlz1 zlz2
  go_wp2_with fail
  refine (H1F.out _ HB.out HRL.out).mono ?_
  rintro e w16 ⟨rfl, hb⟩
  clear zc0 zc1 zlz0 zlz1 zlz2
  replace HB := Lib.hid (HB.out.trans (hb.mono HB.out.size))
  replace HNc := Lib.hid ((hb.block _ (Array.getElem?_eq_some_iff.1 HNc.out).1).trans HNc.out)
  replace HNt := Lib.hid ((hb.block _ (Array.getElem?_eq_some_iff.1 HNt.out).1).trans HNt.out)
  replace HNlz := Lib.hid ((hb.block _ (Array.getElem?_eq_some_iff.1 HNlz.out).1).trans HNlz.out)
  replace HNhz := Lib.hid ((hb.block _ (Array.getElem?_eq_some_iff.1 HNhz.out).1).trans HNhz.out)
  replace HRL := Lib.hid (HRL.out.keep hb)
  replace HRH := Lib.hid (HRH.out.keep hb)
  clear hb
  have zc0 := cellH HNc.out 0
  have zc1 := cellH HNc.out 1
  have zhz0 := cellH HNhz.out 0
  have zhz1 := cellH HNhz.out 1
  have zhz2 := cellH HNhz.out 2
  simp only [List.getElem?_toArray, List.getElem?_cons_zero, List.getElem?_cons_succ] at zc0 zc1 zhz0 zhz1 zhz2
  go_wp2_with fail
  refine (H2F.out _ HB.out HRH.out).mono ?_
  rintro e w17 ⟨rfl, hb⟩
  clear zc0 zc1 zhz0 zhz1 zhz2
  replace HB := Lib.hid (HB.out.trans (hb.mono HB.out.size))
  replace HNc := Lib.hid ((hb.block _ (Array.getElem?_eq_some_iff.1 HNc.out).1).trans HNc.out)
  replace HNt := Lib.hid ((hb.block _ (Array.getElem?_eq_some_iff.1 HNt.out).1).trans HNt.out)
  replace HNlz := Lib.hid ((hb.block _ (Array.getElem?_eq_some_iff.1 HNlz.out).1).trans HNlz.out)
  replace HNhz := Lib.hid ((hb.block _ (Array.getElem?_eq_some_iff.1 HNhz.out).1).trans HNhz.out)
  replace HRL := Lib.hid (HRL.out.keep hb)
  replace HRH := Lib.hid (HRH.out.keep hb)
  clear hb
  have hnn := HNN.out
  have hbb := HBB.out
  have gw1 : IntKind.i64.wrap (hi - lo) = hi - lo := IntWalk.i64_in _ (by omega)
  have gw2 : IntKind.i64.wrap (hi - lo + 1) = (N : Int) := by rw [← hnn.1]; exact IntWalk.i64_in _ (by omega)
  have hatt := HAT.out
  have hjm : (at_.toNat % N) < N := Nat.mod_lt _ (by omega)
  have hjt : (at_.tmod (N : Int)) = ((at_.toNat % N : Nat) : Int) := by
    rw [Int.tmod_eq_emod_of_nonneg hatt.1]
    have : at_ = (at_.toNat : Int) := by omega
    rw [this, Int.toNat_natCast]; omega
  obtain ⟨K, hK⟩ : ∃ K, at_.toNat % N = K := ⟨_, rfl⟩
  rw [hK] at hjm hjt
  have ht1 : IntKind.i64.wrap at_ = at_ := IntWalk.i64_in _ (by omega)
  have hmne : ((N : Int) == 0) = false := by simpa using (by omega : ¬ (N : Int) = 0)
  have HKM := Lib.hid hjm
  have hKM := HAZ.out K hjm
  have hKL := HLA.out K hjm
  have hKE := HAE.out K hjm
  have hKN := HAN.out K
  have hKB := HAB.out K hjm
  obtain ⟨T, hT⟩ : ∃ q, lo + (K : Int) = q := ⟨_, rfl⟩
  have gt1 : IntKind.i64.wrap (lo + (K : Int)) = T := by rw [hT]; exact IntWalk.i64_in _ (by omega)
  rw [hT] at hKM hKL hKE hKN hKB
  have HZT := Lib.hid (fun w' h => HZR.out T w' h)
  rw [hKM] at HZT
  obtain ⟨SL, hSL⟩ : ∃ q, spLo dr L T = q := ⟨_, rfl⟩
  obtain ⟨SH, hSH⟩ : ∃ q, spHi dr L T = q := ⟨_, rfl⟩
  rw [hSL, hSH] at HZT hKL hKE hKB
  have HSBD := Lib.hid hKB
  rw [hSH] at hKN
  have HKL := Lib.hid hKL
  have HKE := Lib.hid hKE
  have HKN := Lib.hid hKN
  clear hatt hK hKM hKL hKE hKN hKB hT hSL hSH hnn hbb HAZ HAE HAN
  have zc0 := cellH HNc.out 0
  have zc1 := cellH HNc.out 1
  have zt0 := cellH HNt.out 0
  have zt1 := cellH HNt.out 1
  have zlz0 := cellH HNlz.out 0
  have zlz1 := cellH HNlz.out 1
  have zlz2 := cellH HNlz.out 2
  have zhz0 := cellH HNhz.out 0
  have zhz1 := cellH HNhz.out 1
  have zhz2 := cellH HNhz.out 2
  simp only [List.getElem?_toArray, List.getElem?_cons_zero, List.getElem?_cons_succ] at zc0 zc1 zt0 zt1 zlz0 zlz1 zlz2 zhz0 zhz1 zhz2
  go_wp2_with fail
  refine (HZT.out _ HB.out).mono ?_
  rintro e w18 ⟨rfl, hb⟩
  clear zc0 zc1 zt0 zt1 zlz0 zlz1 zlz2 zhz0 zhz1 zhz2
  clear gw1 gw2 hjt ht1 hmne hjm gt1
  replace HB := Lib.hid (HB.out.trans (hb.mono HB.out.size))
  replace HNc := Lib.hid ((hb.block _ (Array.getElem?_eq_some_iff.1 HNc.out).1).trans HNc.out)
  replace HNt := Lib.hid ((hb.block _ (Array.getElem?_eq_some_iff.1 HNt.out).1).trans HNt.out)
  replace HNlz := Lib.hid ((hb.block _ (Array.getElem?_eq_some_iff.1 HNlz.out).1).trans HNlz.out)
  replace HNhz := Lib.hid ((hb.block _ (Array.getElem?_eq_some_iff.1 HNhz.out).1).trans HNhz.out)
  replace HRL := Lib.hid (HRL.out.keep hb)
  replace HRH := Lib.hid (HRH.out.keep hb)
  clear hb
  have hAlc : Below w18.heap.size w18 (w18.alloc (.cells #[.int .i64 SL, .int .i64 SH] 27)) := (Below.refl _ w18).alloc (Nat.le_refl _) _
  have HSzb : Hid (w.heap.size ≤ w18.heap.size) := Lib.hid HB.out.size
  have HNzb : Hid ((w18.alloc (.cells #[.int .i64 SL, .int .i64 SH] 27)).heap[w18.heap.size]? = some (.cells #[.int .i64 SL, .int .i64 SH] 27 (0, 0))) := Lib.hid (heap_alloc_new _ _)
  replace HB := Lib.hid (HB.out.trans (hAlc.mono HB.out.size))
  have HXc_zb : Hid (w.heap.size ≠ w18.heap.size) := Lib.hid (Nat.ne_of_lt (Array.getElem?_eq_some_iff.1 HNc.out).1)
  have HXt_zb : Hid (w.heap.size + 1 ≠ w18.heap.size) := Lib.hid (Nat.ne_of_lt (Array.getElem?_eq_some_iff.1 HNt.out).1)
  have HXlz_zb : Hid (bklz ≠ w18.heap.size) := Lib.hid (Nat.ne_of_lt (Array.getElem?_eq_some_iff.1 HNlz.out).1)
  have HXhz_zb : Hid (bkhz ≠ w18.heap.size) := Lib.hid (Nat.ne_of_lt (Array.getElem?_eq_some_iff.1 HNhz.out).1)
  replace HNc := Lib.hid ((hAlc.block _ (Array.getElem?_eq_some_iff.1 HNc.out).1).trans HNc.out)
  replace HNt := Lib.hid ((hAlc.block _ (Array.getElem?_eq_some_iff.1 HNt.out).1).trans HNt.out)
  replace HNlz := Lib.hid ((hAlc.block _ (Array.getElem?_eq_some_iff.1 HNlz.out).1).trans HNlz.out)
  replace HNhz := Lib.hid ((hAlc.block _ (Array.getElem?_eq_some_iff.1 HNhz.out).1).trans HNhz.out)
  replace HRL := Lib.hid (HRL.out.keep hAlc)
  replace HRH := Lib.hid (HRH.out.keep hAlc)
  obtain ⟨azb, hazb⟩ : ∃ qq, w18.alloc (.cells #[.int .i64 SL, .int .i64 SH] 27) = qq := ⟨_, rfl⟩
  obtain ⟨bkzb, hbzb⟩ : ∃ qq, w18.heap.size = qq := ⟨_, rfl⟩
  rw [hazb] at HB HNzb HNc HNt HNlz HNhz HRL HRH
  rw [hbzb] at HNzb HSzb HXc_zb HXt_zb HXlz_zb HXhz_zb
  clear hAlc
  have hkm := HKM.out
  obtain ⟨lb, lf, rfl, hlb, el⟩ := HRL.out.at K (by rw [HLN.out.1]; exact hkm)
  obtain ⟨hbl, hf, rfl, hhb, eh⟩ := HRH.out.at K (by rw [HLN.out.2]; exact hkm)
  rw [HKL.out.1] at el
  rw [HKL.out.2] at eh
  have hki : (K : Int) < N := by omega
  have hk0 : (0 : Int) ≤ K := by omega
  have gse : decide (SH < SL) = false := decide_eq_false (by have := HKE.out; omega)
  have gs1 : (SL != SL) = false := by simp
  have gs2 : (SH != SH) = false := by simp
  clear hlb hhb hkm
  have zlz0 := cellH HNlz.out 0
  have zlz1 := cellH HNlz.out 1
  have zlz2 := cellH HNlz.out 2
  have zhz0 := cellH HNhz.out 0
  have zhz1 := cellH HNhz.out 1
  have zhz2 := cellH HNhz.out 2
  have zzb0 := cellH HNzb.out 0
  have zzb1 := cellH HNzb.out 1
  simp only [List.getElem?_toArray, List.getElem?_cons_zero, List.getElem?_cons_succ] at zlz0 zlz1 zlz2 zhz0 zhz1 zhz2 zzb0 zzb1
  go_wp2_with fail
  try clear hazb hbzb
  go_quiet (fail)
  obtain ⟨wq, hwq⟩ : ∃ q, azb.drewN nq = q := ⟨_, rfl⟩
  have hbq : Below azb.heap.size azb wq := by rw [← hwq]; exact belowN (Below.refl _ _) _
  rw [hwq]
  clear hwq
  clear zlz0 zlz1 zlz2 zhz0 zhz1 zhz2 zzb0 zzb1
  clear el eh hki hk0 gse gs1 gs2
  replace HB := Lib.hid (HB.out.trans (hbq.mono HB.out.size))
  replace HNc := Lib.hid ((hbq.block _ (Array.getElem?_eq_some_iff.1 HNc.out).1).trans HNc.out)
  replace HNt := Lib.hid ((hbq.block _ (Array.getElem?_eq_some_iff.1 HNt.out).1).trans HNt.out)
  replace HNlz := Lib.hid ((hbq.block _ (Array.getElem?_eq_some_iff.1 HNlz.out).1).trans HNlz.out)
  replace HNhz := Lib.hid ((hbq.block _ (Array.getElem?_eq_some_iff.1 HNhz.out).1).trans HNhz.out)
  replace HNzb := Lib.hid ((hbq.block _ (Array.getElem?_eq_some_iff.1 HNzb.out).1).trans HNzb.out)
  replace HRL := Lib.hid (HRL.out.keep hbq)
  replace HRH := Lib.hid (HRH.out.keep hbq)
  clear hbq
  have hke := HKE.out
  have hnn := HNR.out
  have HSB := Lib.hid hke
  have hsb : -300 ≤ SL ∧ SH ≤ 300 := HSBD.out
  obtain ⟨D, hD⟩ : ∃ D, SH - SL + 1 = D := ⟨_, rfl⟩
  have gd1 : IntKind.i64.wrap (SH - SL) = SH - SL := IntWalk.i64_in _ (by omega)
  have gd2 : IntKind.i64.wrap (SH - SL + 1) = D := by rw [hD]; exact IntWalk.i64_in _ (by omega)
  have hd0 : (D == 0) = false := by simpa using (by omega : ¬ D = 0)
  obtain ⟨Q, hQ⟩ : ∃ Q, n.tmod D = Q := ⟨_, rfl⟩
  have hq1 : 0 ≤ Q ∧ Q < D := by
    rw [← hQ, Int.tmod_eq_emod_of_nonneg hnn.1]
    exact ⟨Int.emod_nonneg _ (by omega), Int.emod_lt_of_pos _ (by omega)⟩
  obtain ⟨VV, hS⟩ : ∃ S, SL + Q = S := ⟨_, rfl⟩
  have gd3 : IntKind.i64.wrap n = n := IntWalk.i64_in _ (by omega)
  have gd4 : IntKind.i64.wrap (SL + Q) = VV := by rw [hS]; exact IntWalk.i64_in _ (by omega)
  have gd5 : IntKind.i64.wrap Q = Q := IntWalk.i64_in _ (by omega)
  have gd6 : IntKind.i64.wrap (SH + 1) = SH + 1 := IntWalk.i64_in _ (by omega)
  have HG6 := Lib.hid gd6
  clear hnn hke gd6
  have zzb0 := cellH HNzb.out 0
  have zzb1 := cellH HNzb.out 1
  simp only [List.getElem?_toArray, List.getElem?_cons_zero, List.getElem?_cons_succ] at zzb0 zzb1
  go_wp2_with fail
  go_quiet (fail)
  obtain ⟨wp, hwp⟩ : ∃ q, wq.drewN nq = q := ⟨_, rfl⟩
  have hbq : Below wq.heap.size wq wp := by rw [← hwp]; exact belowN (Below.refl _ _) _
  rw [hwp]
  clear hwp
  clear zzb0 zzb1
  clear hsb hD gd1 gd2 hd0 hQ hq1 hS gd3 gd4 gd5
  replace HB := Lib.hid (HB.out.trans (hbq.mono HB.out.size))
  replace HNc := Lib.hid ((hbq.block _ (Array.getElem?_eq_some_iff.1 HNc.out).1).trans HNc.out)
  replace HNt := Lib.hid ((hbq.block _ (Array.getElem?_eq_some_iff.1 HNt.out).1).trans HNt.out)
  replace HNlz := Lib.hid ((hbq.block _ (Array.getElem?_eq_some_iff.1 HNlz.out).1).trans HNlz.out)
  replace HNhz := Lib.hid ((hbq.block _ (Array.getElem?_eq_some_iff.1 HNhz.out).1).trans HNhz.out)
  replace HNzb := Lib.hid ((hbq.block _ (Array.getElem?_eq_some_iff.1 HNzb.out).1).trans HNzb.out)
  replace HRL := Lib.hid (HRL.out.keep hbq)
  replace HRH := Lib.hid (HRH.out.keep hbq)
  clear hbq
  have HWB := Lib.hid HB.out.size
  have HBW := HB
  have HRLW := HRL
  have HRHW := HRH
  have HQ : Hid (BlC wp wp) := Lib.hid (Below.refl _ _)
  have HNcW := HNc
  have HNtW := HNt
  have HNlzW := HNlz
  have HNhzW := HNhz
  have HNzbW := HNzb
  have HRW : Hid (∀ W', Below wp.heap.size wp W' → W'.cell? ⟨bklz, 0, none⟩ = some (.int .i64 id) ∧ W'.cell? ⟨bklz, 1, none⟩ = some (.int .i64 lo) ∧ W'.cell? ⟨bklz, 2, none⟩ = some (.slice (some ⟨lb, lf, none⟩) N lc) ∧ W'.cell? ⟨bkhz, 0, none⟩ = some (.int .i64 id) ∧ W'.cell? ⟨bkhz, 1, none⟩ = some (.int .i64 lo) ∧ W'.cell? ⟨bkhz, 2, none⟩ = some (.slice (some ⟨hbl, hf, none⟩) N hc)) := Lib.hid (fun W' h => ⟨cellH ((h.block _ (Array.getElem?_eq_some_iff.1 HNlz.out).1).trans HNlz.out) 0, cellH ((h.block _ (Array.getElem?_eq_some_iff.1 HNlz.out).1).trans HNlz.out) 1, cellH ((h.block _ (Array.getElem?_eq_some_iff.1 HNlz.out).1).trans HNlz.out) 2, cellH ((h.block _ (Array.getElem?_eq_some_iff.1 HNhz.out).1).trans HNhz.out) 0, cellH ((h.block _ (Array.getElem?_eq_some_iff.1 HNhz.out).1).trans HNhz.out) 1, cellH ((h.block _ (Array.getElem?_eq_some_iff.1 HNhz.out).1).trans HNhz.out) 2⟩)
  have zt0 := cellH HNt.out 0
  have zt1 := cellH HNt.out 1
  simp only [List.getElem?_toArray, List.getElem?_cons_zero, List.getElem?_cons_succ] at zt0 zt1
  have hAlc : Below wp.heap.size wp (wp.alloc (.cells #[.int .i64 0, .int .i64 0, .slice none 0 0] 33)) := (Below.refl _ wp).alloc (Nat.le_refl _) _
  have HSo : Hid (w.heap.size ≤ wp.heap.size) := Lib.hid HB.out.size
  have HNo : Hid ((wp.alloc (.cells #[.int .i64 0, .int .i64 0, .slice none 0 0] 33)).heap[wp.heap.size]? = some (.cells #[.int .i64 0, .int .i64 0, .slice none 0 0] 33 (0, 0))) := Lib.hid (heap_alloc_new _ _)
  replace HB := Lib.hid (HB.out.trans (hAlc.mono HB.out.size))
  have HXc_o : Hid (w.heap.size ≠ wp.heap.size) := Lib.hid (Nat.ne_of_lt (Array.getElem?_eq_some_iff.1 HNc.out).1)
  have HXt_o : Hid (w.heap.size + 1 ≠ wp.heap.size) := Lib.hid (Nat.ne_of_lt (Array.getElem?_eq_some_iff.1 HNt.out).1)
  have HXlz_o : Hid (bklz ≠ wp.heap.size) := Lib.hid (Nat.ne_of_lt (Array.getElem?_eq_some_iff.1 HNlz.out).1)
  have HXhz_o : Hid (bkhz ≠ wp.heap.size) := Lib.hid (Nat.ne_of_lt (Array.getElem?_eq_some_iff.1 HNhz.out).1)
  have HXzb_o : Hid (bkzb ≠ wp.heap.size) := Lib.hid (Nat.ne_of_lt (Array.getElem?_eq_some_iff.1 HNzb.out).1)
  replace HNc := Lib.hid ((hAlc.block _ (Array.getElem?_eq_some_iff.1 HNc.out).1).trans HNc.out)
  replace HNt := Lib.hid ((hAlc.block _ (Array.getElem?_eq_some_iff.1 HNt.out).1).trans HNt.out)
  replace HNlz := Lib.hid ((hAlc.block _ (Array.getElem?_eq_some_iff.1 HNlz.out).1).trans HNlz.out)
  replace HNhz := Lib.hid ((hAlc.block _ (Array.getElem?_eq_some_iff.1 HNhz.out).1).trans HNhz.out)
  replace HNzb := Lib.hid ((hAlc.block _ (Array.getElem?_eq_some_iff.1 HNzb.out).1).trans HNzb.out)
  replace HQ := Lib.hid (HQ.out.keep hAlc)
  obtain ⟨ao, hao⟩ : ∃ qq, wp.alloc (.cells #[.int .i64 0, .int .i64 0, .slice none 0 0] 33) = qq := ⟨_, rfl⟩
  obtain ⟨bko, hbo⟩ : ∃ qq, wp.heap.size = qq := ⟨_, rfl⟩
  rw [hao] at HB HNo HNc HNt HNlz HNhz HNzb HQ
  rw [hbo] at HNo HSo HXc_o HXt_o HXlz_o HXhz_o HXzb_o
  clear hAlc
  have hW2 : wp.heap.size = bko := hbo
  have zo0_21 := cellH HNo.out 0
  have zo1_21 := cellH HNo.out 1
  have zo2_21 := cellH HNo.out 2
  simp only [List.getElem?_toArray, List.getElem?_cons_zero, List.getElem?_cons_succ] at zo0_21 zo1_21 zo2_21
  have zfo_21 := freeH HNo.out
  replace HNc := Lib.hid ((heap_other ao (bko) 0 (.int .i64 id) _ HXc_o.out).trans HNc.out)
  replace HNt := Lib.hid ((heap_other ao (bko) 0 (.int .i64 id) _ HXt_o.out).trans HNt.out)
  replace HNlz := Lib.hid ((heap_other ao (bko) 0 (.int .i64 id) _ HXlz_o.out).trans HNlz.out)
  replace HNhz := Lib.hid ((heap_other ao (bko) 0 (.int .i64 id) _ HXhz_o.out).trans HNhz.out)
  replace HNzb := Lib.hid ((heap_other ao (bko) 0 (.int .i64 id) _ HXzb_o.out).trans HNzb.out)
  replace HNo := Lib.hid (heap_same HNo.out 0 (.int .i64 id))
  simp only [List.setIfInBounds_toArray, List.set_cons_zero, List.set_cons_succ] at HNo
  replace HB := Lib.hid (HB.out.setCell (p := ⟨bko, 0, none⟩) HSo.out (.int .i64 id))
  replace HQ := Lib.hid (HQ.out.set (Nat.le_of_eq hW2) 0 (.int .i64 id))
  obtain ⟨s19, hs19⟩ : ∃ X, ao.setCell ⟨bko, 0, none⟩ (.int .i64 id) = X := ⟨_, rfl⟩
  rw [hs19] at HB HNc HNt HNlz HNhz HNzb HNo HQ
  have zo0_22 := cellH HNo.out 0
  have zo1_22 := cellH HNo.out 1
  have zo2_22 := cellH HNo.out 2
  simp only [List.getElem?_toArray, List.getElem?_cons_zero, List.getElem?_cons_succ] at zo0_22 zo1_22 zo2_22
  have zfo_22 := freeH HNo.out
  replace HNc := Lib.hid ((heap_other s19 (bko) 1 (.int .i64 lo) _ HXc_o.out).trans HNc.out)
  replace HNt := Lib.hid ((heap_other s19 (bko) 1 (.int .i64 lo) _ HXt_o.out).trans HNt.out)
  replace HNlz := Lib.hid ((heap_other s19 (bko) 1 (.int .i64 lo) _ HXlz_o.out).trans HNlz.out)
  replace HNhz := Lib.hid ((heap_other s19 (bko) 1 (.int .i64 lo) _ HXhz_o.out).trans HNhz.out)
  replace HNzb := Lib.hid ((heap_other s19 (bko) 1 (.int .i64 lo) _ HXzb_o.out).trans HNzb.out)
  replace HNo := Lib.hid (heap_same HNo.out 1 (.int .i64 lo))
  simp only [List.setIfInBounds_toArray, List.set_cons_zero, List.set_cons_succ] at HNo
  replace HB := Lib.hid (HB.out.setCell (p := ⟨bko, 1, none⟩) HSo.out (.int .i64 lo))
  replace HQ := Lib.hid (HQ.out.set (Nat.le_of_eq hW2) 1 (.int .i64 lo))
  obtain ⟨s20, hs20⟩ : ∃ X, s19.setCell ⟨bko, 1, none⟩ (.int .i64 lo) = X := ⟨_, rfl⟩
  rw [hs20] at HB HNc HNt HNlz HNhz HNzb HNo HQ
  have zo0_23 := cellH HNo.out 0
  have zo1_23 := cellH HNo.out 1
  have zo2_23 := cellH HNo.out 2
  simp only [List.getElem?_toArray, List.getElem?_cons_zero, List.getElem?_cons_succ] at zo0_23 zo1_23 zo2_23
  have zfo_23 := freeH HNo.out
  replace HNc := Lib.hid ((heap_other s20 (bko) 2 (.slice none 0 0) _ HXc_o.out).trans HNc.out)
  replace HNt := Lib.hid ((heap_other s20 (bko) 2 (.slice none 0 0) _ HXt_o.out).trans HNt.out)
  replace HNlz := Lib.hid ((heap_other s20 (bko) 2 (.slice none 0 0) _ HXlz_o.out).trans HNlz.out)
  replace HNhz := Lib.hid ((heap_other s20 (bko) 2 (.slice none 0 0) _ HXhz_o.out).trans HNhz.out)
  replace HNzb := Lib.hid ((heap_other s20 (bko) 2 (.slice none 0 0) _ HXzb_o.out).trans HNzb.out)
  replace HNo := Lib.hid (heap_same HNo.out 2 (.slice none 0 0))
  simp only [List.setIfInBounds_toArray, List.set_cons_zero, List.set_cons_succ] at HNo
  replace HB := Lib.hid (HB.out.setCell (p := ⟨bko, 2, none⟩) HSo.out (.slice none 0 0))
  replace HQ := Lib.hid (HQ.out.set (Nat.le_of_eq hW2) 2 (.slice none 0 0))
  obtain ⟨s21, hs21⟩ : ∃ X, s20.setCell ⟨bko, 2, none⟩ (.slice none 0 0) = X := ⟨_, rfl⟩
  rw [hs21] at HB HNc HNt HNlz HNhz HNzb HNo HQ
  have HW2 := Lib.hid hW2
  clear hW2
  have HOW : Hid (OwI s21 wp.heap.size (.slice none 0 0) (mdL dr L lo VV 0)) := Lib.hid ⟨rfl, .inl ⟨rfl, rfl⟩⟩
  go_wp2_with fail
  try clear hao hbo hs19 hs20 hs21
  clear zt0 zt1 zo0_21 zo1_21 zo2_21 zfo_21 zo0_22 zo1_22 zo2_22 zfo_22 zo0_23 zo1_23 zo2_23 zfo_23
  clear HNc HNt HNhz HNzb HRL HRH
  go_loopw [26] (fun i wr => ∃ (k : Nat) (o : Value), k ≤ N ∧ i = .int .i64 k ∧ Hid (OwI wr wp.heap.size o (mdL dr L lo VV k)) ∧ Hid (Below w.heap.size w wr) ∧ Hid (wr.heap[bklz]? = some (.cells #[.int .i64 id, .int .i64 lo, .slice (some ⟨lb, lf, none⟩) N lc] 33 (0, 0))) ∧ Hid (wr.heap[bko]? = some (.cells #[.int .i64 id, .int .i64 lo, o] 33 (0, 0))) ∧ Hid (BlC wp wr)) (fun i _ => N - (intOf i).toNat)
  case atStart => exact ⟨0, _, Nat.zero_le _, rfl, HOW, HB, HNlz, HNo, HQ⟩
  case round =>
    clear HB HNlz HNo HQ
    clear HOW
    obtain ⟨k, o, hk, rfl, HOW, HB, HNlz, HNo, HQ⟩ := hrel
    have hnn := HNN.out
    by_cases hkl : k < N
    · as_aux_lemma =>
        obtain ⟨lb2, lf2, hle, hlb, el⟩ := HRLW.out.at k (by rw [HLN.out.1]; exact hkl)
        cases hle
        obtain ⟨hb2, hf2, hhe, hhb, eh⟩ := HRHW.out.at k (by rw [HLN.out.2]; exact hkl)
        cases hhe
        have hla := HLA.out k hkl
        have HEL : Hid (∀ w', Below wp.heap.size wp w' → w'.cell? ⟨lb, lf + k, none⟩ = some (.int .i64 (LL.getD k 0)) ∧ w'.cell? ⟨hbl, hf + k, none⟩ = some (.int .i64 (LH.getD k 0))) := Lib.hid (fun w' h => ⟨(h.cell (p := ⟨lb, _, none⟩) hlb).trans el, (h.cell (p := ⟨hbl, _, none⟩) hhb).trans eh⟩)
        rw [hla.1, hla.2] at HEL
        have hki : (k : Int) < N := by omega
        have hk0 : (0 : Int) ≤ k := by omega
        have HKL2 := Lib.hid hkl
        have HST : Hid (mdL dr L lo VV (k + 1) = mdL dr L lo VV k ++ [max (spLo dr L (lo + k)) (min (spHi dr L (lo + k)) VV)]) := Lib.hid md_succ
        have hln : (mdL dr L lo VV k).length ≤ 60 := by rw [md_len]; omega
        obtain ⟨A1, hA1⟩ : ∃ q, spLo dr L (lo + k) = q := ⟨_, rfl⟩
        obtain ⟨A2, hA2⟩ : ∃ q, spHi dr L (lo + k) = q := ⟨_, rfl⟩
        rw [hA1, hA2] at HEL HST
        obtain ⟨FL, hFL⟩ : ∃ q, mdL dr L lo VV k = q := ⟨_, rfl⟩
        rw [hFL] at HST HOW hln
        clear hla hlb hhb el eh hA1 hA2 hFL
        have zlz0 := cellH HNlz.out 0
        have zlz1 := cellH HNlz.out 1
        have zlz2 := cellH HNlz.out 2
        simp only [List.getElem?_toArray, List.getElem?_cons_zero, List.getElem?_cons_succ] at zlz0 zlz1 zlz2
        go_wp2_with fail
        clear zlz0 zlz1 zlz2
        refine wp_region_invn (by kernel_rfl) (AtInv wp bko bklz bkhz lb lf lc hbl hf hc N k id lo A1 A2 VV o FL.length (FL.map (Value.int .i64)) _ _ _ _ _ _ _ _ _ _ _ _ _ _ _ _ _ _ _ _ _ _ _ _ _ _ _ _ _ _ _ _ _ _ _ _ _ _ _ _ _ _ _ _ _ _ _ _ _ _ _ _ _ _ _ _ _ _ _ _ _ _ _ _ _ _ _ _ _ _ _ _ _ _ _ _ _ _ _ _ _ _ _ _ _ _ _ _ _ _ _ _ _ _ _ _ _ _ _ _ _ _ _ _ _ _ _ _ _ _ _ _ _ _ _ _ _ _ _ _ _ _ _ _ _ _ _ _ _ _ _ _ _ _ _ _ _ _ _ _ _ _ _ _ _ _ _ _ _ _ _ _ _ _ _ _ _ _ _ _ _ _ _ _ _ _ _ _ _ _ _ _ _ _ _ _ _ _ _ _ _ _ _ _ _ _ _ _ _ _ _ _ _ _ _ _ _ _ _ _ _ _ _ _ _ _ _ _ _ _ _ _ _ _ _ _ _ _ _ _ _ _ _ _ _ _ _ _ _ _ _ _ _ _ _ _ _ _ _ _ _ _ _ _ _ _ _ _ _ _ _ _ _ _ _ _) ⟨false, false, false, false, false, false, false, false, false, false, false, false, false, false, false, false, false, false, false, 0, undef, rfl, rfl, (Below.drew HQ.out), HOW.out.drew, by simp, by simp, by simp, by simp, HNo.out⟩ ?hend ?hstep
        case hstep =>
          as_aux_lemma =>
            rintro listed a w' i ⟨l0, l1, l2, l3, l4, l5, l6, l7, l8, l9, l10, l11, l12, l13, l14, l15, l16, l17, l18, A, V, rfl, rfl, hb, hO, hA, kA, kS, kL, xo⟩ hi
            obtain ⟨hf, o', ho', hp⟩ := mem_ready.1 hi
            have hin : i < 19 := (Array.getElem?_eq_some_iff.1 ho').1
            clear hi
            obtain ⟨zlz0, zlz1, zlz2, zhz0, zhz1, zhz2⟩ := HRW.out w' hb
            obtain ⟨el, eh⟩ := HEL.out w' hb
            match i, hin with
            | 0, _ =>
              obtain rfl : l0 = false := by simpa using hf
              clear hp ho'
              unfold wpOp
              simp only [pkIf_true]
              go_simp
              exact .inl ⟨true, l1, l2, l3, l4, l5, l6, l7, l8, l9, l10, l11, l12, l13, l14, l15, l16, l17, l18, A, V, rfl, rfl, hb, hO, hA, kA, kS, kL, xo⟩
            | 1, _ =>
              obtain rfl : l1 = false := by simpa using hf
              obtain rfl : l16 = false := by
                cases l16 with
                | false => rfl
                | true => exact absurd (kL rfl) (by decide)
              obtain rfl : l18 = false := by
                cases l18 with
                | false => rfl
                | true => exact absurd (kS rfl) (by decide)
              cases ho'
              obtain rfl : l0 = true := by simpa using hp ⟨0, .data⟩ (by simp) rfl
              clear hp
              simp only [Bool.false_eq_true, if_false] at xo
              have c0 := cellH xo 2
              simp only [List.getElem?_toArray, List.getElem?_cons_zero, List.getElem?_cons_succ] at c0
              unfold wpOp
              simp only [pkIf_true]
              go_simp
              exact .inl ⟨true, true, l2, l3, l4, l5, l6, l7, l8, l9, l10, l11, l12, l13, l14, l15, false, l17, false, A, V, rfl, rfl, hb, hO, hA, kA, kS, (fun _ => rfl), xo⟩
            | 2, _ =>
              obtain rfl : l2 = false := by simpa using hf
              clear hp ho'
              unfold wpOp
              simp only [pkIf_true]
              go_simp
              exact .inl ⟨l0, l1, true, l3, l4, l5, l6, l7, l8, l9, l10, l11, l12, l13, l14, l15, l16, l17, l18, A, V, rfl, rfl, hb, hO, hA, kA, kS, kL, xo⟩
            | 3, _ =>
              obtain rfl : l3 = false := by simpa using hf
              cases ho'
              obtain rfl : l2 = true := by simpa using hp ⟨2, .data⟩ (by simp) rfl
              clear hp
              unfold wpOp
              simp only [pkIf_true]
              go_simp
              exact .inl ⟨l0, l1, true, true, l4, l5, l6, l7, l8, l9, l10, l11, l12, l13, l14, l15, l16, l17, l18, A, V, rfl, rfl, hb, hO, hA, kA, kS, kL, xo⟩
            | 4, _ =>
              obtain rfl : l4 = false := by simpa using hf
              clear hp ho'
              unfold wpOp
              simp only [pkIf_true]
              go_simp
              exact .inl ⟨l0, l1, l2, l3, true, l5, l6, l7, l8, l9, l10, l11, l12, l13, l14, l15, l16, l17, l18, A, V, rfl, rfl, hb, hO, hA, kA, kS, kL, xo⟩
            | 5, _ =>
              obtain rfl : l5 = false := by simpa using hf
              cases ho'
              obtain rfl : l3 = true := by simpa using hp ⟨3, .data⟩ (by simp) rfl
              obtain rfl : l4 = true := by simpa using hp ⟨4, .data⟩ (by simp) rfl
              clear hp
              unfold wpOp
              simp only [pkIf_true]
              go_simp
              exact .inl ⟨l0, l1, l2, true, true, true, l6, l7, l8, l9, l10, l11, l12, l13, l14, l15, l16, l17, l18, A, V, rfl, rfl, hb, hO, hA, kA, kS, kL, xo⟩
            | 6, _ =>
              obtain rfl : l6 = false := by simpa using hf
              cases ho'
              obtain rfl : l5 = true := by simpa using hp ⟨5, .data⟩ (by simp) rfl
              clear hp
              unfold wpOp
              simp only [pkIf_true]
              go_simp
              exact .inl ⟨l0, l1, l2, l3, l4, true, true, l7, l8, l9, l10, l11, l12, l13, l14, l15, l16, l17, l18, A, V, rfl, rfl, hb, hO, hA, kA, kS, kL, xo⟩
            | 7, _ =>
              obtain rfl : l7 = false := by simpa using hf
              clear hp ho'
              unfold wpOp
              simp only [pkIf_true]
              go_simp
              exact .inl ⟨l0, l1, l2, l3, l4, l5, l6, true, l8, l9, l10, l11, l12, l13, l14, l15, l16, l17, l18, A, V, rfl, rfl, hb, hO, hA, kA, kS, kL, xo⟩
            | 8, _ =>
              obtain rfl : l8 = false := by simpa using hf
              cases ho'
              obtain rfl : l7 = true := by simpa using hp ⟨7, .data⟩ (by simp) rfl
              clear hp
              unfold wpOp
              simp only [pkIf_true]
              go_simp
              exact .inl ⟨l0, l1, l2, l3, l4, l5, l6, true, true, l9, l10, l11, l12, l13, l14, l15, l16, l17, l18, A, V, rfl, rfl, hb, hO, hA, kA, kS, kL, xo⟩
            | 9, _ =>
              obtain rfl : l9 = false := by simpa using hf
              clear hp ho'
              unfold wpOp
              simp only [pkIf_true]
              go_simp
              exact .inl ⟨l0, l1, l2, l3, l4, l5, l6, l7, l8, true, l10, l11, l12, l13, l14, l15, l16, l17, l18, A, V, rfl, rfl, hb, hO, hA, kA, kS, kL, xo⟩
            | 10, _ =>
              obtain rfl : l10 = false := by simpa using hf
              cases ho'
              obtain rfl : l8 = true := by simpa using hp ⟨8, .data⟩ (by simp) rfl
              obtain rfl : l9 = true := by simpa using hp ⟨9, .data⟩ (by simp) rfl
              clear hp
              unfold wpOp
              simp only [pkIf_true]
              go_simp
              exact .inl ⟨l0, l1, l2, l3, l4, l5, l6, l7, true, true, true, l11, l12, l13, l14, l15, l16, l17, l18, A, V, rfl, rfl, hb, hO, hA, kA, kS, kL, xo⟩
            | 11, _ =>
              obtain rfl : l11 = false := by simpa using hf
              cases ho'
              obtain rfl : l10 = true := by simpa using hp ⟨10, .data⟩ (by simp) rfl
              clear hp
              unfold wpOp
              simp only [pkIf_true]
              go_simp
              exact .inl ⟨l0, l1, l2, l3, l4, l5, l6, l7, l8, l9, true, true, l12, l13, l14, l15, l16, l17, l18, A, V, rfl, rfl, hb, hO, hA, kA, kS, kL, xo⟩
            | 12, _ =>
              obtain rfl : l12 = false := by simpa using hf
              clear hp ho'
              unfold wpOp
              simp only [pkIf_true]
              go_simp
              exact .inl ⟨l0, l1, l2, l3, l4, l5, l6, l7, l8, l9, l10, l11, true, l13, l14, l15, l16, l17, l18, A, V, rfl, rfl, hb, hO, hA, kA, kS, kL, xo⟩
            | 13, _ =>
              obtain rfl : l13 = false := by simpa using hf
              cases ho'
              obtain rfl : l11 = true := by simpa using hp ⟨11, .data⟩ (by simp) rfl
              obtain rfl : l12 = true := by simpa using hp ⟨12, .data⟩ (by simp) rfl
              clear hp
              unfold wpOp
              simp only [pkIf_true]
              go_simp
              exact .inl ⟨l0, l1, l2, l3, l4, l5, l6, l7, l8, l9, l10, true, true, true, l14, l15, l16, l17, l18, A, V, rfl, rfl, hb, hO, hA, kA, kS, kL, xo⟩
            | 14, _ =>
              obtain rfl : l14 = false := by simpa using hf
              cases ho'
              obtain rfl : l6 = true := by simpa using hp ⟨6, .data⟩ (by simp) rfl
              obtain rfl : l13 = true := by simpa using hp ⟨13, .data⟩ (by simp) rfl
              clear hp
              unfold wpOp
              simp only [pkIf_true]
              go_simp
              exact .inl ⟨l0, l1, l2, l3, l4, l5, true, l7, l8, l9, l10, l11, l12, true, true, l15, l16, l17, l18, A, V, rfl, rfl, hb, hO, hA, kA, kS, kL, xo⟩
            | 15, _ =>
              obtain rfl : l15 = false := by simpa using hf
              obtain rfl : l16 = false := by
                cases l16 with
                | false => rfl
                | true => exact absurd (kA rfl) (by decide)
              obtain rfl : l18 = false := by
                cases l18 with
                | false => rfl
                | true => exact absurd (kS rfl) (by decide)
              cases ho'
              obtain rfl : l14 = true := by simpa using hp ⟨14, .data⟩ (by simp) rfl
              clear hp
              unfold wpOp
              simp only [pkIf_true]
              go_simp
              simp only [Bool.false_eq_true, if_false] at hO xo
              exact .inl ⟨l0, l1, l2, l3, l4, l5, l6, l7, l8, l9, l10, l11, l12, l13, true, true, false, l17, false, w'.heap.size, V, rfl, rfl, hb.alloc hb.size _, by simpa using hO.alloc _, (fun _ _ => ⟨heap_alloc_new _ _, fun e => Nat.lt_irrefl _ (World.ownsRow.lt hO _ e).2⟩), (fun h => by cases h), (fun h => by cases h), (fun h => by cases h), (by simpa using (gNe _ _ _ (Nat.ne_of_lt (Array.getElem?_eq_some_iff.1 xo).1)).trans xo)⟩
            | 16, _ =>
              obtain rfl : l16 = false := by simpa using hf
              obtain rfl : l18 = false := by
                cases l18 with
                | false => rfl
                | true => exact absurd (kS rfl) (by decide)
              cases ho'
              obtain rfl : l1 = true := by simpa using hp ⟨1, .data⟩ (by simp) rfl
              obtain rfl : l15 = true := by simpa using hp ⟨15, .data⟩ (by simp) rfl
              clear hp
              obtain ⟨f1, f2⟩ := hA rfl rfl
              simp only [Bool.false_eq_true, if_false] at hO xo
              unfold wpOp
              simp only [pkIf_true, List.getElem?_toArray, List.getElem?_cons_succ, List.getElem?_cons_zero]
              refine ifWanted rfl (append_at_wp _ _ 31 rfl wp.heap.size 3 i0 (.int .i64 0) 1 8 Try.underlying31 hi0 hz0 hz1 hz2 rfl (by decide) o FL.length (FL.map (Value.int .i64)) rfl hO ⟨A, 0, none⟩ 1 1 [.int .i64 (max A1 (min A2 VV))] rfl rfl (fun j u hu => cell_add f1 j u hu) (by simp [Value.oneCell']) (by unfold maxLen; omega) (by omega) hb.size ?_)
              intro v' w9 hown hgr hat
              exact ⟨l0, true, l2, l3, l4, l5, l6, l7, l8, l9, l10, l11, l12, l13, l14, true, true, l17, false, A, v', rfl, rfl, hb.grown hgr hb.size (fun j e => (World.ownsRow.lt hO j e).1), by simpa using hown, (fun _ h => by cases h), (fun _ => rfl), (fun h => by cases h), (fun _ => rfl), (by simpa using ((hgr.block _ (Array.getElem?_eq_some_iff.1 xo).1 (fun e => own_neC hO xo (by decide) e.symm)).trans xo))⟩
            | 17, _ =>
              obtain rfl : l17 = false := by simpa using hf
              clear hp ho'
              unfold wpOp
              simp only [pkIf_true]
              go_simp
              exact .inl ⟨l0, l1, l2, l3, l4, l5, l6, l7, l8, l9, l10, l11, l12, l13, l14, l15, l16, true, l18, A, V, rfl, rfl, hb, hO, hA, kA, kS, kL, xo⟩
            | 18, _ =>
              obtain rfl : l18 = false := by simpa using hf
              cases ho'
              obtain rfl : l17 = true := by simpa using hp ⟨17, .data⟩ (by simp) rfl
              obtain rfl : l16 = true := by simpa using hp ⟨16, .data⟩ (by simp) rfl
              clear hp
              simp only [Bool.false_eq_true, if_false, if_true] at hO xo
              obtain rfl : l15 = true := kA rfl
              obtain rfl : l1 = true := kL rfl
              obtain ⟨qa, qc, rfl⟩ := row_formC hO
              have y0 := cellH xo 0
              have y1 := cellH xo 1
              have y2 := cellH xo 2
              have yf := freeH xo
              simp only [List.getElem?_toArray, List.getElem?_cons_zero, List.getElem?_cons_succ] at y0 y1 y2
              have z1 := heap_same xo 2 (.slice qa (FL.length + 1) qc)
              simp only [List.setIfInBounds_toArray, List.set_cons_zero, List.set_cons_succ] at z1
              unfold wpOp
              simp only [pkIf_true]
              go_simp
              exact .inl ⟨l0, true, l2, l3, l4, l5, l6, l7, l8, l9, l10, l11, l12, l13, l14, true, true, true, true, A, (.slice qa (FL.length + 1) qc), rfl, rfl, hb.setCell (p := ⟨bko, 2, none⟩) (Nat.le_of_eq HW2.out) (.slice qa (FL.length + 1) qc), by simpa using own_setC hO xo (by decide) 2 (.slice qa (FL.length + 1) qc), (fun _ h => by cases h), kA, (fun _ => rfl), kL, by simpa using z1⟩
        case hend =>
          rintro listed a w22 ⟨l0, l1, l2, l3, l4, l5, l6, l7, l8, l9, l10, l11, l12, l13, l14, l15, l16, l17, l18, A, V, rfl, rfl, hb, hO, _, _, _, _, xo⟩ hall
          have hal0 := ready_all (by kernel_rfl) rfl hall 19
          have hal : l0 = true ∧ l1 = true ∧ l2 = true ∧ l3 = true ∧ l4 = true ∧ l5 = true ∧ l6 = true ∧ l7 = true ∧ l8 = true ∧ l9 = true ∧ l10 = true ∧ l11 = true ∧ l12 = true ∧ l13 = true ∧ l14 = true ∧ l15 = true ∧ l16 = true ∧ l17 = true ∧ l18 = true := ⟨hal0 0 (by decide) (by simp), hal0 1 (by decide) (by simp), hal0 2 (by decide) (by simp), hal0 3 (by decide) (by simp), hal0 4 (by decide) (by simp), hal0 5 (by decide) (by simp), hal0 6 (by decide) (by simp), hal0 7 (by decide) (by simp), hal0 8 (by decide) (by simp), hal0 9 (by decide) (by simp), hal0 10 (by decide) (by simp), hal0 11 (by decide) (by simp), hal0 12 (by decide) (by simp), hal0 13 (by decide) (by simp), hal0 14 (by decide) (by simp), hal0 15 (by decide) (by simp), hal0 16 (by decide) (by simp), hal0 17 (by decide) (by simp), hal0 18 (by decide) (by simp)⟩
          obtain ⟨rfl, rfl, rfl, rfl, rfl, rfl, rfl, rfl, rfl, rfl, rfl, rfl, rfl, rfl, rfl, rfl, rfl, rfl, rfl⟩ := hal
          simp only [if_true] at hO xo
          have HQ9 : Hid (BlC wp w22) := Lib.hid hb
          have HO9 := Lib.hid hO
          have HNo9 := Lib.hid xo
          simp only [pkIf_true, List.drop_succ_cons, List.drop_zero]
          clear hall hal0 hb hO xo
          have HB9 : Hid (Below w.heap.size w w22) := Lib.hid (HBW.out.trans (Below.mono HQ9.out HWB.out))
          have HNlz9 := Lib.hid ((Below.block HQ9.out _ (Array.getElem?_eq_some_iff.1 HNlzW.out).1).trans HNlzW.out)
          have HOW9 : Hid (OwI w22 wp.heap.size V (mdL dr L lo VV (k + 1))) := Lib.hid (by
            rw [HST.out]
            unfold OwI
            rw [List.length_append, List.map_append]; exact HO9.out)
          go_wp2_with fail
          go_roundw
          case rel => exact ⟨k + 1, V, HKL2.out, by go_num, HOW9, HB9, HNlz9, HNo9, HQ9⟩
          case measure => have := HKL2.out; simp [intOf]; omega
    · as_aux_lemma =>
        obtain rfl : k = N := by omega
        have hki : ¬ (k : Int) < k := by omega
        have HMF := Lib.hid (HAF.out.2.2 VV)
        have HML := Lib.hid (md_len (dr := dr) (L := L) (lo := lo) (v := VV) (n := k))
        obtain ⟨M, hM⟩ : ∃ q, mdL dr L lo VV k = q := ⟨_, rfl⟩
        rw [hM] at HOW HMF HML
        obtain ⟨oa, oc, rfl⟩ := row_formC HOW.out
        rw [HML.out] at HOW HNo
        obtain ⟨og, rfl⟩ := OwI.some HOW.out (by rw [HML.out]; omega)
        have HOC := Lib.hid (OwI.cap HOW.out)
        have HOR := Lib.hid (OwI.row HOW.out)
        have hbb := HBB.out
        have H3F := Lib.hid (fun w' h1 h2 => HFT.out (.slice (some ⟨og, 0, none⟩) k oc) M w' h1 h2 HOC.out (by rw [HML.out]; omega) (by omega))
        rw [HMF.out] at H3F
        have HNcX := Lib.hid ((Below.block HQ.out _ (Array.getElem?_eq_some_iff.1 HNcW.out).1).trans HNcW.out)
        have HNzbX := Lib.hid ((Below.block HQ.out _ (Array.getElem?_eq_some_iff.1 HNzbW.out).1).trans HNzbW.out)
        have HNc := HNcX
        have HNzb := HNzbX
        clear hM hkl hk hbb HNcX HNzbX
        have zlz0 := cellH HNlz.out 0
        have zlz1 := cellH HNlz.out 1
        have zlz2 := cellH HNlz.out 2
        simp only [List.getElem?_toArray, List.getElem?_cons_zero, List.getElem?_cons_succ] at zlz0 zlz1 zlz2
        clear HNlz
        have zc0_26 := cellH HNc.out 0
        have zc1_26 := cellH HNc.out 1
        have zo0_26 := cellH HNo.out 0
        have zo1_26 := cellH HNo.out 1
        have zo2_26 := cellH HNo.out 2
        simp only [List.getElem?_toArray, List.getElem?_cons_zero, List.getElem?_cons_succ] at zc0_26 zc1_26 zo0_26 zo1_26 zo2_26
        go_wp2_with fail
        refine (H3F.out _ HB.out HOR.out).mono ?_
        rintro e w23 ⟨rfl, hb⟩
        clear zlz0 zlz1 zlz2 zc0_26 zc1_26 zo0_26 zo1_26 zo2_26
        clear hki hnn HOR H3F
        replace HB := Lib.hid (HB.out.trans (hb.mono HB.out.size))
        replace HNc := Lib.hid ((hb.block _ (Array.getElem?_eq_some_iff.1 HNc.out).1).trans HNc.out)
        replace HNzb := Lib.hid ((hb.block _ (Array.getElem?_eq_some_iff.1 HNzb.out).1).trans HNzb.out)
        replace HNo := Lib.hid ((hb.block _ (Array.getElem?_eq_some_iff.1 HNo.out).1).trans HNo.out)
        replace HQ := Lib.hid (HQ.out.keep hb)
        replace HOW := Lib.hid (HOW.out.keep hb)
        clear hb
        have hkm := HKM.out
        obtain ⟨ec, ef, hgb, hkc⟩ := OwI.cellAt HOW.out (k := K) (by rw [HML.out]; exact hkm)
        have hko : (K : Int) < k := by omega
        have hk0 : (0 : Int) ≤ K := by omega
        have gd6 := HG6.out
        have HSET := Lib.hid (OwI.put HOW.out (k := K) (by rw [HML.out]; exact hkm) (SH + 1))
        have HWS := Lib.hid (show w.heap.size ≤ og from Nat.le_trans HWB.out hgb)
        have HBS := Lib.hid (HB.out.setCell (p := ⟨og, K, none⟩) HWS.out (.int .i64 (SH + 1)))
        have HNcS := Lib.hid ((heap_other w23 og K (.int .i64 (SH + 1)) (w.heap.size) (fun e => own_neC HOW.out HNc.out (by decide) (by rw [e]; rfl))).trans HNc.out)
        have HNzbS := Lib.hid ((heap_other w23 og K (.int .i64 (SH + 1)) bkzb (fun e => own_neC HOW.out HNzb.out (by decide) (by rw [e]; rfl))).trans HNzb.out)
        have HNoS := Lib.hid ((heap_other w23 og K (.int .i64 (SH + 1)) bko (fun e => own_neC HOW.out HNo.out (by decide) (by rw [e]; rfl))).trans HNo.out)
        clear hgb hkc hkm
        have zzb0 := cellH HNzb.out 0
        have zzb1 := cellH HNzb.out 1
        have zo0 := cellH HNo.out 0
        have zo1 := cellH HNo.out 1
        have zo2 := cellH HNo.out 2
        simp only [List.getElem?_toArray, List.getElem?_cons_zero, List.getElem?_cons_succ] at zzb0 zzb1 zo0 zo1 zo2
        obtain ⟨ws, hws⟩ : ∃ X, w23.setCell ⟨og, K, none⟩ (.int .i64 (SH + 1)) = X := ⟨_, rfl⟩
        rw [hws] at HSET HBS HNcS HNzbS HNoS
        have zs0 := cellH HNcS.out 0
        have zs1 := cellH HNcS.out 1
        have zt0 := cellH HNoS.out 0
        have zt1 := cellH HNoS.out 1
        have zt2 := cellH HNoS.out 2
        simp only [List.getElem?_toArray, List.getElem?_cons_zero, List.getElem?_cons_succ] at zs0 zs1 zt0 zt1 zt2
        go_wp2_with fail
        clear hws zs0 zs1 zt0 zt1 zt2 ec ef hko gd6
        clear zzb0 zzb1 zo0 zo1 zo2
        replace HB := HBS
        replace HNc := HNcS
        replace HNzb := HNzbS
        replace HNo := HNoS
        clear HOW HQ
        have hms : (M.set K (SH + 1)).getD K 0 = SH + 1 := by
          rw [List.getD_eq_getElem?_getD, List.getElem?_set_self (by rw [HML.out]; exact HKM.out)]; rfl
        have HMS := Lib.hid hms
        have hmn := HKN.out (M.set K (SH + 1)) (by rw [List.length_set, HML.out]; exact HKM.out) hms
        have H4F := Lib.hid (fun w' h1 h2 => HFT.out (.slice (some ⟨og, 0, none⟩) k oc) (M.set K (SH + 1)) w' h1 h2 HOC.out (by rw [List.length_set, HML.out]; have := HNN.out; omega) (by have := HBB.out; omega))
        rw [hmn] at H4F
        have HOW := HSET
        have HOR := Lib.hid (OwI.row HSET.out)
        have HMM := Lib.hid (show (M.set K (SH + 1)).length = k by rw [List.length_set, HML.out])
        obtain ⟨M2, hM2⟩ : ∃ q, M.set K (SH + 1) = q := ⟨_, rfl⟩
        rw [hM2] at H4F HOW HOR HMS HMM
        clear hms hmn hM2 HSET HBS HNcS HNzbS HNoS
        refine (H4F.out _ HB.out HOR.out).mono ?_
        rintro e w24 ⟨rfl, hb⟩
        replace HB := Lib.hid (HB.out.trans (hb.mono HB.out.size))
        replace HNc := Lib.hid ((hb.block _ (Array.getElem?_eq_some_iff.1 HNc.out).1).trans HNc.out)
        replace HNzb := Lib.hid ((hb.block _ (Array.getElem?_eq_some_iff.1 HNzb.out).1).trans HNzb.out)
        replace HNo := Lib.hid ((hb.block _ (Array.getElem?_eq_some_iff.1 HNo.out).1).trans HNo.out)
        replace HOW := Lib.hid (HOW.out.keep hb)
        clear hb HOR H4F
        obtain ⟨ec, _⟩ := OwI.cellAt HOW.out (k := K) (by rw [HMM.out]; exact HKM.out)
        rw [HMS.out] at ec
        have hkm := HKM.out
        have hko : (K : Int) < k := by omega
        have hk0 : (0 : Int) ≤ K := by omega
        have gd6 := HG6.out
        have HEC := Lib.hid (show og < w24.heap.size ∧ w24.cell? ⟨og, K, none⟩ = some (.int .i64 (SH + 1)) from ⟨(World.ownsRow.lt HOW.out og rfl).2, ec⟩)
        have C5 := Lib.hid (upC (Z := w24) H5.out)
        have gq : (SH + 1 == SH + 1) = true := by simp
        clear ec hkm
        have HRD : Hid (∀ W', Below w24.heap.size w24 W' → W'.cell? ⟨bkzb, 0, none⟩ = some (.int .i64 SL) ∧ W'.cell? ⟨bkzb, 1, none⟩ = some (.int .i64 SH) ∧ W'.cell? ⟨bko, 0, none⟩ = some (.int .i64 id) ∧ W'.cell? ⟨bko, 1, none⟩ = some (.int .i64 lo) ∧ W'.cell? ⟨bko, 2, none⟩ = some (.slice (some ⟨og, 0, none⟩) k oc) ∧ W'.cell? ⟨og, K, none⟩ = some (.int .i64 (SH + 1))) := Lib.hid (fun W' h => ⟨cellH ((h.block _ (Array.getElem?_eq_some_iff.1 HNzb.out).1).trans HNzb.out) 0, cellH ((h.block _ (Array.getElem?_eq_some_iff.1 HNzb.out).1).trans HNzb.out) 1, cellH ((h.block _ (Array.getElem?_eq_some_iff.1 HNo.out).1).trans HNo.out) 0, cellH ((h.block _ (Array.getElem?_eq_some_iff.1 HNo.out).1).trans HNo.out) 1, cellH ((h.block _ (Array.getElem?_eq_some_iff.1 HNo.out).1).trans HNo.out) 2, (h.cell (p := ⟨og, _, none⟩) HEC.out.1).trans HEC.out.2⟩)
        go_wp2_with fail
        refine wp_region_turn 19 (fun _ w' => Below w24.heap.size w24 w') (by kernel_rfl) (by kernel_rfl) ((Below.refl _ w24).drew) ?_
        simp only [List.take_succ_cons, List.take_zero, List.drop_succ_cons, List.drop_zero]
        iterate 19
          (first
            | (apply turnC_skip (by rfl))
            | (apply turnC_step (by rfl); (intro w' hw'; obtain ⟨zzb0, zzb1, zo0, zo1, zo2, ec⟩ := HRD.out w' hw'; go_simp; first | with_reducible exact ⟨hw', rfl⟩ | with_reducible exact ⟨hw', congrArg Value.bool gq⟩ | with_reducible exact rfl))
            | (apply turnC_step (by rfl); (intro w' hw'; go_simp; first | with_reducible exact C5.out w' hw')))
          simp only [Act.put, List.setIfInBounds_toArray, List.set_cons_succ, List.set_cons_zero]
        intro listed w25 _ hb
        replace HB := Lib.hid (HB.out.trans (hb.mono HB.out.size))
        replace HNc := Lib.hid ((hb.block _ (Array.getElem?_eq_some_iff.1 HNc.out).1).trans HNc.out)
        replace HNzb := Lib.hid ((hb.block _ (Array.getElem?_eq_some_iff.1 HNzb.out).1).trans HNzb.out)
        replace HNo := Lib.hid ((hb.block _ (Array.getElem?_eq_some_iff.1 HNo.out).1).trans HNo.out)
        replace HOW := Lib.hid (HOW.out.keep hb)
        clear hb
        go_wp2_with fail
        go_ret
        exact ⟨rfl, HB.out⟩
theorem attains_card (v1 v2 : Value) (cs : List Ci) (ks : List Ck) (id lo hi at_ n : Int) (w : World) (hv1 : CiRow w v1 cs) (hv2 : CkRow w v2 ks) (hl1 : cs.length ≤ 9223372036854775807) (hl2 : ks.length ≤ 9223372036854775807) (hid : -9223372036854775808 ≤ id ∧ id ≤ 9223372036854775807) (hlo : -9223372036854775808 ≤ lo ∧ lo ≤ 9223372036854775807) (hhi : -9223372036854775808 ≤ hi ∧ hi ≤ 9223372036854775807) (hat : 0 ≤ at_ ∧ at_ ≤ 65535) (hnr : 0 ≤ n ∧ n ≤ 65535) :
    Calls Try.prog 3 #[.agg #[v1, v2], .int .i64 id, .agg #[.int .i64 lo, .int .i64 hi], .int .u16 at_, .int .u16 n] w fun e w' => e = .returned (.bool true) ∧ Below w.heap.size w w' := by
  cases hb : fwB cs.length ks.length
  · exact attains_out v1 v2 cs ks id lo hi at_ n w hv1 hv2 hl1 hl2 hid hlo hhi hat hnr (.inl hb)
  · by_cases hq : 0 ≤ lo ∧ hi ≤ 1048576 ∧ lo ≤ hi ∧ hi - lo < 60
    · by_cases he : snE cs ks id lo hi = 0
      · exact attains_ok v1 v2 cs ks id lo hi at_ n w hv1 hv2 hl1 hl2 hid hlo hhi hat hnr hb hq he
      · exact attains_bad v1 v2 cs ks id lo hi at_ n w hv1 hv2 hl1 hl2 hid hlo hhi hat hnr hb hq he
    · exact attains_out v1 v2 cs ks id lo hi at_ n w hv1 hv2 hl1 hl2 hid hlo hhi hat hnr (by
        refine .inr ?_
        omega)
end Go.Proofs.Ytebdboacmeafaaa
