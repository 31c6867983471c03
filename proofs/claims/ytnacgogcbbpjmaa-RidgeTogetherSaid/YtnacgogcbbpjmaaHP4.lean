/- Index of numbers; Best of package ridge. -/
import Derived.Test.YtnacgogcbbpjmaaHP2
import Derived.Test.YtnacgogcbbpjmaaHB3
import Derived.Test.YtnacgogcbbpjmaaHD3
set_option linter.unusedVariables false
set_option linter.unusedSimpArgs false
namespace Go.Proofs.Ytnacgogcbbpjmaa
open Go Go.RowKit

/-- The first index of a number, counted from k. -/
def fxF (x : Int) : List Int → Nat → Int
  | [], _ => -1
  | a :: l, k => if a = x then k else fxF x l (k + 1)
set_option maxRecDepth 100000 in
set_option maxHeartbeats 8000000 in
theorem Index_any (v : Value) (l : List Int) (x : Int) (w : World) (hv : INRow w v l) (hl : l.length ≤ 100000) :
    Calls Try.prog 31 #[v, .int .i64 x] w fun e w' => e = .returned (.int .i64 (fxF x l 0)) ∧ Below w.heap.size w w' := by
  obtain ⟨a, cap, rfl, hc⟩ := hv.form
  have HC := Lib.hid hc
  clear hc hv
  go_enter Try.func31, Try.ntmps31
  go_wp2_with fail
  go_loopw [8] (fun i wr => ∃ (k : Nat), k ≤ l.length ∧ i = .int .i64 k ∧ Hid (fxF x l 0 = fxF x (l.drop k) k) ∧ Hid (Below w.heap.size w wr)) (fun i _ => l.length - (intOf i).toNat)
  case atStart => exact ⟨0, Nat.zero_le _, rfl, Lib.hid rfl, Lib.hid (Below.refl _ _)⟩
  case round =>
    obtain ⟨k, hk, rfl, hT, hB⟩ := hrel
    by_cases hkl : k < l.length
    · obtain ⟨b, off, rfl, hb, c0⟩ := HC.out k hkl
      have hki : (k : Int) < l.length := by omega
      have hk0 : (0 : Int) ≤ k := by omega
      have e0 := (hB.out.cell (p := ⟨b, _, none⟩) hb).trans c0
      have hD : Hid (fxF x (l.drop k) k = if l.getD k 0 = x then (k : Int) else fxF x (l.drop (k + 1)) (k + 1)) := Lib.hid (by
        rw [List.getD_eq_getElem?_getD, List.getElem?_eq_getElem hkl, List.drop_eq_getElem_cons hkl]; rfl)
      obtain ⟨y, hy⟩ : ∃ y, l.getD k 0 = y := ⟨_, rfl⟩
      rw [hy] at e0 hD
      clear hy c0 hb
      by_cases hxy : y = x
      · have HN : Hid (fxF x l 0 = k) := Lib.hid (by rw [hT.out, hD.out, if_pos hxy])
        subst hxy
        have qq : (y == y) = true := by simp
        go_wp2_with fail
        go_ret
        exact ⟨by rw [HN.out]; rfl, hB.out⟩
      · have HN : Hid (fxF x l 0 = fxF x (l.drop (k + 1)) (k + 1)) := Lib.hid (by rw [hT.out, hD.out, if_neg hxy])
        have qq : (x == y) = false := by simpa using fun h : x = y => hxy h.symm
        have q2 : (y == x) = false := by simpa using hxy
        go_wp2_with fail
        go_roundw
        case rel => exact ⟨k + 1, by omega, by go_num, HN, hB⟩
        case measure => simp [intOf]; omega
    · obtain rfl : k = l.length := by omega
      have HN : Hid (fxF x l 0 = -1) := Lib.hid (by rw [hT.out, List.drop_length]; rfl)
      go_wp2_with fail
      go_ret
      exact ⟨by rw [HN.out]; rfl, hB.out⟩
/-- The first places that no tower sees, by the towers alone. -/
def nsL (g : List Int) (wd : Int) (T : List Tw) (rise far : Int) : Nat → List Pl
  | 0 => []
  | k + 1 => if (T.any fun t => seB g wd t (plI wd k) rise far) = true then nsL g wd T rise far k else nsL g wd T rise far k ++ [plI wd k]
theorem wmN_zero {g : List Int} {wd : Int} {L T : List Tw} {rise far : Int} {i : Nat} (h : Ord L T) : wmN g wd L rise far i = 0 ↔ ¬ (T.any fun t => seB g wd t (plI wd i) rise far) = true := by
  unfold wmN
  rw [mTo_zero]
  simp only [List.any_eq_true, not_exists, not_and, Bool.not_eq_true]
  constructor
  · intro h1 t ht
    have ht2 := h.1.mem_iff.2 ht
    obtain ⟨j, hj, rfl⟩ := List.getElem_of_mem ht2
    have := h1 j hj
    unfold seI at this
    rwa [getD_tw hj] at this
  · intro h1 j hj
    unfold seI
    rw [getD_tw hj]
    exact h1 _ (h.1.mem_iff.1 (List.getElem_mem _))
theorem dkL_eq {g : List Int} {wd : Int} {L T : List Tw} {rise far : Int} (h : Ord L T) : ∀ k, dkL g wd L rise far k = nsL g wd T rise far k
  | 0 => rfl
  | k + 1 => by
    rw [dkL, nsL, dkL_eq h k]
    by_cases hz : wmN g wd L rise far k = 0
    · rw [if_pos hz, if_neg ((wmN_zero h).1 hz)]
    · rw [if_neg hz, if_pos (by by_cases q : (T.any fun t => seB g wd t (plI wd k) rise far) = true; exact q; exact absurd ((wmN_zero h).2 q) hz)]
theorem nsL_len (g : List Int) (wd : Int) (T : List Tw) (rise far : Int) : ∀ k, (nsL g wd T rise far k).length ≤ k
  | 0 => by simp [nsL]
  | k + 1 => by
    have := nsL_len g wd T rise far k
    rw [nsL]; split
    · omega
    · simp; omega
theorem nsL_on {wd hg : Int} {g : List Int} {T : List Tw} {rise far : Int} (hm : vmB wd hg g = true) : ∀ k, k ≤ g.length → ∀ p ∈ nsL g wd T rise far k, onB wd hg p = true
  | 0, _, p, hp => by simp [nsL] at hp
  | k + 1, hk, p, hp => by
    rw [nsL] at hp
    split at hp
    · exact nsL_on hm k (by omega) p hp
    · rcases List.mem_append.1 hp with hp | hp
      · exact nsL_on hm k (by omega) p hp
      · rw [List.mem_singleton.1 hp]; exact plI_on hm (by omega)

end Go.Proofs.Ytnacgogcbbpjmaa

/-! Best of package ridge. -/
set_option linter.unusedVariables false
set_option linter.unusedSimpArgs false
namespace Go.Proofs.Ytnacgogcbbpjmaa
open Go Go.RowKit

/-- Of some places those that a tower sees, counted. -/
def gnC (g : List Int) (wd : Int) (t : Tw) (rise far : Int) (l : List Pl) : Nat := l.countP fun q => seB g wd t q rise far
/-- What a tower at each of the first places gains. -/
def gnL (g : List Int) (wd : Int) (height rise far : Int) (dark : List Pl) (k : Nat) : List Int := (List.range k).map fun i => (gnC g wd ⟨0, (plI wd i).1, (plI wd i).2, height⟩ rise far dark : Int)
theorem gnL_succ (g : List Int) (wd height rise far : Int) (dark : List Pl) (k : Nat) : gnL g wd height rise far dark (k + 1) = gnL g wd height rise far dark k ++ [(gnC g wd ⟨0, (plI wd k).1, (plI wd k).2, height⟩ rise far dark : Int)] := by
  unfold gnL; rw [List.range_succ, List.map_append]; rfl
theorem gnL_len (g : List Int) (wd height rise far : Int) (dark : List Pl) (k : Nat) : (gnL g wd height rise far dark k).length = k := by unfold gnL; simp
theorem gnC_succ (g : List Int) (wd : Int) (t : Tw) (rise far : Int) {D : List Pl} {j : Nat} (h : j < D.length) : gnC g wd t rise far (D.take (j + 1)) = gnC g wd t rise far (D.take j) + (if seB g wd t (D.getD j (0, 0)) rise far = true then 1 else 0) := by
  unfold gnC
  rw [List.take_succ_eq_append_getElem h, List.countP_append, List.getD_eq_getElem?_getD, List.getElem?_eq_getElem h, List.countP_singleton]; rfl
theorem gnC_le (g : List Int) (wd : Int) (t : Tw) (rise far : Int) (D : List Pl) : gnC g wd t rise far D ≤ D.length := List.countP_le_length
def beE (wd hg : Int) (g : List Int) (T : List Tw) (H : List Hz) (height rise tick : Int) : Int :=
  if cvE wd hg g T H rise tick = 0 then (if wiB height 0 200 = true then (if g.length ≤ 200 then 0 else 2) else 1) else cvE wd hg g T H rise tick
/-- What Best returns of a country without a fault: the greatest gain, and its first index. -/
def beN (g : List Int) (wd : Int) (T : List Tw) (height rise far : Int) : Int := (gnL g wd height rise far (nsL g wd T rise far g.length) g.length).foldl max 0
def beK (g : List Int) (wd : Int) (T : List Tw) (height rise far : Int) : Int := fxF (beN g wd T height rise far) (gnL g wd height rise far (nsL g wd T rise far g.length) g.length) 0
theorem fxF_in {x : Int} : ∀ {l : List Int} {k : Nat}, x ∈ l → ∃ i, i < l.length ∧ fxF x l k = ((k + i : Nat) : Int) ∧ l.getD i 0 = x
  | [], k, h => by simp at h
  | a :: l, k, h => by
    rw [fxF]
    by_cases e : a = x
    · rw [if_pos e]; exact ⟨0, by simp, by simp, by simpa using e⟩
    · rw [if_neg e]
      obtain ⟨i, h1, h2, h3⟩ := fxF_in (k := k + 1) ((List.mem_cons.1 h).resolve_left (fun q => e q.symm))
      exact ⟨i + 1, by simpa using h1, by rw [h2]; congr 1; omega, by simpa using h3⟩
theorem foldl_max_mem : ∀ (l : List Int) (a : Int), l.foldl max a = a ∨ l.foldl max a ∈ l
  | [], a => .inl rfl
  | b :: l, a => by
    rw [List.foldl_cons]
    rcases foldl_max_mem l (max a b) with h | h
    · rw [h]
      by_cases q : a ≤ b
      · right; rw [Int.max_eq_right q]; simp
      · left; exact Int.max_eq_left (by omega)
    · exact .inr (List.mem_cons_of_mem _ h)
theorem fold_mem : ∀ (l : List Int) (x : Int), (∀ y ∈ l, x ≤ y) → l ≠ [] → l.foldl max x ∈ l
  | [], _, _, h => absurd rfl h
  | a :: l, x, h, _ => by
    have hx : max x a = a := Int.max_eq_right (h a (by simp))
    rw [List.foldl_cons, hx]
    rcases foldl_max_mem l a with h1 | h1
    · rw [h1]; simp
    · exact List.mem_cons_of_mem _ h1
theorem be_results {tmps : Array Value} {w : World} {R : Nat} {a b c d : Value} (h : tmps.getD 8 undef = .pointer (some ⟨R, 0, none⟩)) (h2 : tmps.getD 9 undef = c) (h3 : tmps.getD 10 undef = d)
    (hg : w.heap[R]? = some (.cells #[a, b] 32 (0, 0))) : (results Try.f7 tmps).run Try.prog w = .ok (.tuple #[.agg #[a, b], c, d]) w := by
  have h' : tmps[8]?.getD undef = .pointer (some ⟨R, 0, none⟩) := by simpa using h
  have h2' : tmps[9]?.getD undef = c := by simpa using h2
  have h3' : tmps[10]?.getD undef = d := by simpa using h3
  have q0 := cellH hg 0
  have q1 := cellH hg 1
  simp at q0 q1
  simp [results, Try.results7, asAddr, h', h2', h3', q0, q1, go_sem]
/-- The worlds of Best's last region. -/
def BsC (w : World) (n0 : Nat) (wd hg : Int) (o tv hv v : Value) (n : Nat) (G : List Int) (px py : Int) (listed : Array Bool) (w' : World) : Prop :=
  Below w.heap.size w w' ∧ w'.heap[w.heap.size]? = some (.cells #[.int .i64 wd, .int .i64 hg, o, tv, hv] 28 (0, 0)) ∧ w.heap.size + 1 < n0 ∧ w'.ownsRow n0 3 1 v n (G.map (Value.int .i64 ·)) ∧ ∃ a b : Int, w'.heap[w.heap.size + 1]? = some (.cells #[.int .i64 a, .int .i64 b] 32 (0, 0)) ∧ (listed.getD 7 false = true → a = px ∧ b = py)
theorem BsC.keep {w : World} {n0 : Nat} {wd hg : Int} {o tv hv v : Value} {n : Nat} {G : List Int} {px py : Int} {listed : Array Bool} {w' w'' : World} (h : BsC w n0 wd hg o tv hv v n G px py listed w') (hb : Below w'.heap.size w' w'') : BsC w n0 wd hg o tv hv v n G px py listed w'' := by
  obtain ⟨h1, h2, h5, h6, a, b, h7, h8⟩ := h
  have hs := (Array.getElem?_eq_some_iff.1 h7).1
  exact ⟨h1.trans (hb.mono h1.size), (hb.block _ (by omega)).trans h2, h5, own_below h6 hb, a, b, (hb.block _ hs).trans h7, h8⟩
theorem BsC.go {w : World} {n0 : Nat} {wd hg : Int} {o tv hv v : Value} {n : Nat} {G : List Int} {px py : Int} {listed : Array Bool} {w' : World} {k : Nat} (h : BsC w n0 wd hg o tv hv v n G px py listed w') (hk : k ≠ 7) : BsC w n0 wd hg o tv hv v n G px py (listed.setIfInBounds k true) w' := by
  obtain ⟨h1, h2, h5, h6, a, b, h7, h8⟩ := h
  exact ⟨h1, h2, h5, h6, a, b, h7, fun q => h8 (by rwa [getD_set_ne _ hk] at q)⟩
theorem BsC.store {w : World} {n0 : Nat} {wd hg : Int} {o tv hv v : Value} {n : Nat} {G : List Int} {px py : Int} {listed : Array Bool} {w' : World} (h : BsC w n0 wd hg o tv hv v n G px py listed w') : BsC w n0 wd hg o tv hv v n G px py (listed.setIfInBounds 7 true) ((w'.setCell ⟨w.heap.size + 1, 0, none⟩ (.int .i64 px)).setCell ⟨w.heap.size + 1, 1, none⟩ (.int .i64 py)) := by
  obtain ⟨h1, h2, h5, h6, a, b, h7, h8⟩ := h
  refine ⟨(h1.setCell (p := ⟨w.heap.size + 1, 0, none⟩) (by simp only; omega) _).setCell (p := ⟨w.heap.size + 1, 1, none⟩) (by simp only; omega) _, (heap_other _ _ _ _ _ (by omega)).trans ((heap_other _ _ _ _ _ (by omega)).trans h2), h5, ownsRow_setCell_below (ownsRow_setCell_below h6 (a := ⟨w.heap.size + 1, 0, none⟩) (by simpa using h5) _) (a := ⟨w.heap.size + 1, 1, none⟩) (by simpa using h5) _, px, py, heap_same (heap_same h7 0 _) 1 _, fun _ => ⟨rfl, rfl⟩⟩
theorem turnG_step {P : Program} {ops : Array Oper} {md : Region.Mode} {n : Nat} {C : Array Bool → World → Prop} {Q : Act → Prop} {o : Oper} {rest : List Oper} {k : Nat} {a : Act} {v : Value} (hw : Region.wanted o (yielded ops a.tmps) = true)
    (h1 : ∀ listed w', C listed w' → TurnUpon P (C (listed.setIfInBounds k true)) v ((execOp a.eval o).run P w')) (h2 : wpTurn P ops md n C Q rest (k + 1) (a.put o.dst v)) : wpTurn P ops md n C Q (o :: rest) k a := ⟨v, .inl ⟨hw, fun listed w _ _ hC => h1 listed w hC⟩, h2⟩
theorem BsC.drew0 {w : World} {n0 : Nat} {wd hg : Int} {o tv hv v : Value} {n : Nat} {G : List Int} {px py : Int} {w' : World} {N : Nat} (h : BsC w n0 wd hg o tv hv v n G px py #[] w') : BsC w n0 wd hg o tv hv v n G px py (Array.replicate N false) { w' with drawn := w'.drawn + 1 } := by
  obtain ⟨h1, h2, h5, h6, a, b, h7, h8⟩ := h.keep ((Below.refl _ w').drew)
  exact ⟨h1, h2, h5, h6, a, b, h7, fun q => by rw [getD_replicate_false] at q; cases q⟩
theorem BsC.row {w : World} {n0 : Nat} {wd hg : Int} {o tv hv v : Value} {n : Nat} {G : List Int} {px py : Int} {listed : Array Bool} {w' : World} (h : BsC w n0 wd hg o tv hv v n G px py listed w') (hn : n = G.length) : INRow w' v G := by
  obtain ⟨_, _, _, h6, _⟩ := h
  subst hn
  have h1 : w'.ownsRow n0 3 1 v (G.map (Value.int .i64 ·)).length (G.map (Value.int .i64 ·)) := by rw [List.length_map]; exact h6
  rcases own_row1 h1 with ⟨h1, h2⟩ | ⟨g9, c9, h1, _, _, h4, h5⟩
  · rw [List.map_eq_nil_iff.1 h2]; exact .inl ⟨_, _, h1, rfl⟩
  · rw [List.length_map] at h1
    exact .inr ⟨g9, 0, c9, h1, h4, fun i hi => by rw [Nat.zero_add]; exact h5 i _ (by rw [List.getElem?_map, List.getElem?_eq_getElem hi, List.getD_eq_getElem?_getD, List.getElem?_eq_getElem hi]; rfl)⟩
def BsI (w W1 : World) (wd hg height rise tick far : Int) (oa : Option Addr) (gn oc : Nat) (tv hv : Value) (D : List Pl) (listed : Array Bool) (a : Act) (w' : World) : Prop := ∃ (l0 l1 l2 l3 l4 l5 l6 l7 l8 : Bool) (V : Value), listed = #[l0, l1, l2, l3, l4, l5, l6, l7, l8] ∧ a = { tmps := #[.agg #[.int .i64 wd, .int .i64 hg, .slice oa gn oc, tv, hv], .int .i64 height, .int .i64 rise, .int .i64 tick, .pointer (some ⟨w.heap.size, 0, none⟩), undef, undef, undef, .pointer (some ⟨w.heap.size + 1, 0, none⟩), .int .i64 0, .int .i64 0, .int .i64 0, pickIf l7 (V) (undef), pickIf l8 (.int .i64 far) (undef), undef, undef, undef, undef, undef, undef, undef, .agg #[.int .i64 wd, .int .i64 hg, .slice oa gn oc, tv, hv], .int .i64 rise, .int .i64 tick, .int .i64 0, .int .i64 0, .bool false, undef, undef, .int .i64 height, .bool true, .bool false, undef, .pointer (some ⟨w.heap.size, 0, none⟩), .pointer (some ⟨w.heap.size, 2, none⟩), .slice oa gn oc, .int .i64 gn, .bool false, undef, pickIf l0 (.agg #[.int .i64 wd, .int .i64 hg, .slice oa gn oc, tv, hv]) (undef), pickIf l1 (.int .i64 rise) (undef), pickIf l2 (.int .i64 tick) (undef), pickIf l3 (V) (undef), pickIf l4 (.agg #[.int .i64 wd, .int .i64 hg, .slice oa gn oc, tv, hv]) (undef), pickIf l5 (.int .i64 tick) (undef), pickIf l6 (.int .i64 far) (undef), undef, undef, undef, undef, undef, undef, undef, undef, undef, undef, undef, undef, undef, undef, undef, undef, undef, undef, undef, undef, undef, undef, undef, undef, undef, undef, undef, undef, undef, undef, undef, undef, undef, undef, undef, undef, undef, undef, undef, undef], defers := [] } ∧ Below W1.heap.size W1 w' ∧ (l3 = true → PlRow w' V D) ∧ (l7 = true → l3 = true)
set_option maxRecDepth 100000 in
set_option maxHeartbeats 8000000 in
theorem Best_ok (wd hg : Int) (o tv hv : Value) (g : List Int) (T : List Tw) (H : List Hz) (height rise tick : Int) (w : World) (ho : INRow w o g) (hl : g.length ≤ 9223372036854775807) (ht : TwRow w tv T) (htl : T.length ≤ 9223372036854775807) (hh : HzRow w hv H) (hhl : H.length ≤ 9223372036854775807) (hE : beE wd hg g T H height rise tick = 0) :
    Calls Try.prog 7 #[coV wd hg o tv hv, .int .i64 height, .int .i64 rise, .int .i64 tick] w fun e w' => ∃ k : Nat, k < g.length ∧ beK g wd T height rise (faO H tick) = k ∧ e = .returned (.tuple #[.agg #[.int .i64 (plI wd k).1, .int .i64 (plI wd k).2], .int .i64 (beN g wd T height rise (faO H tick)), .int .i64 0]) ∧ Below w.heap.size w w' := by
  have hcv : cvE wd hg g T H rise tick = 0 := by
    unfold beE at hE; split at hE
    · assumption
    · rename_i h; exact absurd hE h
  rw [beE, if_pos hcv] at hE
  have hwi : wiB height 0 200 = true := by split at hE; assumption; cases hE
  rw [if_pos hwi] at hE
  have hg2 : g.length ≤ 200 := by split at hE; assumption; cases hE
  obtain ⟨hck, hri⟩ := cvE_ok hcv
  obtain ⟨hm, hn, hhn, hok, hnd, hhz⟩ := ckE_ok hck
  have hhe : 0 ≤ height ∧ height ≤ 200 := by
    unfold wiB at hwi; simpa using hwi
  have HCV := Lib.hid (fun w' (h : Below w.heap.size w w') => by have := checkView_any wd hg o tv hv g T H rise tick w' (ho.keep h) hl (ht.keep h) htl (hh.keep h) hhl; rw [hcv] at this; exact this)
  have HVT : Hid (∀ w', Calls Try.prog 24 #[.int .i64 height] w' fun e w'' => e = .returned (.bool true) ∧ w'' = w') := Lib.hid (fun w' => by have := validTall_any height w'; rw [hwi] at this; exact this)
  have HFB := Lib.hid (faO_bd (t := tick) hhz)
  have HUN : Hid (∀ w', Below w.heap.size w w' → Calls Try.prog 25 #[coV wd hg o tv hv, .int .i64 rise, .int .i64 tick] w' fun e w'' => ∃ v', e = .returned v' ∧ PlRow w'' v' (nsL g wd T rise (faO H tick) g.length) ∧ Below w'.heap.size w' w'') := Lib.hid (fun w' h => (unwatched_any wd hg o tv hv g T H rise tick w' (ho.keep h) (ht.keep h) (hh.keep h) hck hri).mono fun e w'' ⟨v, L, he, hb, hO, hw⟩ => ⟨v, he, by rw [← dkL_eq hO]; exact PlRow.of_own hw, hb⟩)
  have HNO := Lib.hid (nsL_on (T := T) (rise := rise) (far := faO H tick) hm g.length (Nat.le_refl _))
  have HNL := Lib.hid (nsL_len g wd T rise (faO H tick) g.length)
  have HFA := Lib.hid (fun w' (h : Below w.heap.size w w') => farAt_any wd hg o tv hv H tick w' (hh.keep h) (by omega))
  have HPL := Lib.hid (fun w' (h : Below w.heap.size w w') => places_any wd hg o g w' (ho.keep h) hm)
  have hw9 : 1 ≤ wd ∧ wd ≤ 49 := by obtain ⟨a1, a2, _⟩ := vmB_ok hm; exact ⟨a1, a2⟩
  have hpos : 0 < g.length := by
    obtain ⟨a1, a2, a3, a4, a5, _⟩ := vmB_ok hm
    have h1 : 1 * 1 ≤ wd * hg := Int.mul_le_mul a1 a3 (by omega) (by omega)
    omega
  have HO := Lib.hid ho
  have HM := Lib.hid hm
  obtain ⟨oa, oc, rfl, _⟩ := ho.form
  have HPA := Lib.hid (fun (k : Nat) (hk : k ≤ 2401) w' => placeAt_any wd hg (.slice oa g.length oc) k w' hw9 hk ⟨_, _, _, rfl⟩)
  obtain ⟨W1, hW1, hb0, hs1, hrd⟩ := co_reads w wd hg (.slice oa g.length oc) tv hv
  have HW1 := Lib.hid hW1; have HB0 := Lib.hid hb0; have HRD := Lib.hid hrd
  have HX := Lib.hid (And.intro hhe hri)
  clear hW1 hb0 hs1 hrd ho ht hh hck hm hri hw9 hE hcv hwi hl htl hhl hn hhn hok hnd hhz hhe
  obtain ⟨i0, hi0, hz0, hz1, hz2⟩ := info_parts info_in
  obtain ⟨far, hfar⟩ : ∃ x, faO H tick = x := ⟨_, rfl⟩
  rw [hfar] at HUN HFA HFB HNO HNL ⊢
  clear hfar
  unfold beK beN
  obtain ⟨D, hD⟩ : ∃ D, nsL g wd T rise far g.length = D := ⟨_, rfl⟩
  rw [hD] at HUN HNO HNL ⊢
  clear hD
  have hGL := gnL_len g wd height rise far D g.length
  have hmem : (gnL g wd height rise far D g.length).foldl max 0 ∈ gnL g wd height rise far D g.length := fold_mem _ 0 (fun y hy => by unfold gnL at hy; obtain ⟨i, _, rfl⟩ := List.mem_map.1 hy; exact Int.natCast_nonneg _) (fun h => by rw [h] at hGL; simp at hGL; omega)
  obtain ⟨m, hm1, hm2, _⟩ := fxF_in (k := 0) hmem
  rw [Nat.zero_add] at hm2
  rw [hGL] at hm1
  obtain ⟨G, hG⟩ : ∃ G, gnL g wd height rise far D g.length = G := ⟨_, rfl⟩
  rw [hG] at hm2 hGL ⊢
  obtain ⟨M, hM⟩ : ∃ M, G.foldl max 0 = M := ⟨_, rfl⟩
  rw [hM] at hm2 ⊢
  rw [hm2]
  have HGE := Lib.hid hG
  have HME := Lib.hid hM
  have HM1 := Lib.hid hm1
  have HM2 := Lib.hid hm2
  have HGL := Lib.hid hGL
  have HPK := Lib.hid (HPA.out m (by omega))
  clear hmem hm1 hm2 hG hM hGL
  unfold coV at HCV HUN HFA
  unfold coV
  go_enter Try.func7, Try.ntmps7
  go_wp2_with fail
  rw [← HW1.out]
  obtain ⟨q0, q1, q2, q3, q4⟩ := HRD.out W1 (Below.refl _ _)
  go_wp2_with fail
  have hY1 := (Below.refl _ W1).alloc (Nat.le_refl _) (.cells #[.int .i64 0, .int .i64 0] 32)
  have hs9 : W1.heap.size = w.heap.size + 1 := by rw [HW1.out]; simp
  have HRE : Hid (∀ W', Below (W1.alloc (.cells #[.int .i64 0, .int .i64 0] 32)).heap.size (W1.alloc (.cells #[.int .i64 0, .int .i64 0] 32)) W' → W'.heap[w.heap.size + 1]? = some (.cells #[.int .i64 0, .int .i64 0] 32 (0, 0))) := Lib.hid (fun W' h => (h.block (w.heap.size + 1) (by simp; omega)).trans (gAt W1 _ _ hs9.symm))
  have HRC : Hid (∀ W', Below (W1.alloc (.cells #[.int .i64 0, .int .i64 0] 32)).heap.size (W1.alloc (.cells #[.int .i64 0, .int .i64 0] 32)) W' → W'.heap[w.heap.size]? = some (.cells #[.int .i64 wd, .int .i64 hg, .slice oa g.length oc, tv, hv] 28 (0, 0))) := Lib.hid (fun W' h => (h.block (w.heap.size) (by simp; omega)).trans ((gNe W1 _ _ (by omega)).trans (by rw [HW1.out]; exact gAt w _ _ rfl)))
  have HRD2 := Lib.hid (fun W' (h : Below (W1.alloc (.cells #[.int .i64 0, .int .i64 0] 32)).heap.size (W1.alloc (.cells #[.int .i64 0, .int .i64 0] 32)) W') => HRD.out W' (hY1.trans (h.mono hY1.size)))
  have HB1 := Lib.hid (HB0.out.trans (hY1.mono HB0.out.size))
  obtain ⟨Y1, hY1e⟩ : ∃ Y, W1.alloc (.cells #[.int .i64 0, .int .i64 0] 32) = Y := ⟨_, rfl⟩
  rw [hY1e] at HRE HRC HRD2 HB1 ⊢
  have HSZ : Hid (w.heap.size + 1 < Y1.heap.size) := Lib.hid (by rw [← hY1e]; simp; omega)
  clear hY1 hY1e hs9 HRD HB0
  have HRD := HRD2
  have HB0 := HB1
  clear HRD2 HB1
  refine (HCV.out _ HB0.out).mono ?_
  rintro e w2 ⟨rfl, hb2⟩
  have HD2 := Lib.hid hb2
  have HB2 := Lib.hid (HB0.out.trans (HD2.out.mono HB0.out.size))
  clear hb2 q0 q1 q2 q3 q4
  go_wp2_with fail
  refine (HVT.out _).mono ?_
  rintro e w3 ⟨rfl, rfl⟩
  obtain ⟨q0, q1, q2, q3, q4⟩ := HRD.out w3 HD2.out
  have hq200 : decide (200 < (g.length : Int)) = false := by simp; omega
  go_wp2_with fail
  have HRDR := Lib.hid (fun w' (h : Below w3.heap.size w3 w') => HRD.out w' (HD2.out.trans (h.mono HD2.out.size)))
  have HUNR := Lib.hid (fun w' (h : Below w3.heap.size w3 w') => HUN.out w' (HB2.out.trans (h.mono HB2.out.size)))
  have HFAR := Lib.hid (fun w' (h : Below w3.heap.size w3 w') => HFA.out w' (HB2.out.trans (h.mono HB2.out.size)))
  clear q0 q1 q2 q3 q4
  rename_i Q K hK
  suffices key : ∀ (V : Value) (W : World), Hid (Below w3.heap.size w3 W ∧ PlRow W V D) → Exit.then K Q Exit.normal { tmps := #[.agg #[.int .i64 wd, .int .i64 hg, .slice oa g.length oc, tv, hv], .int .i64 height, .int .i64 rise, .int .i64 tick, .pointer (some ⟨w.heap.size, 0, none⟩), undef, undef, undef, .pointer (some ⟨w.heap.size + 1, 0, none⟩), .int .i64 0, .int .i64 0, .int .i64 0, (V), (.int .i64 far), undef, undef, undef, undef, undef, undef, undef, .agg #[.int .i64 wd, .int .i64 hg, .slice oa g.length oc, tv, hv], .int .i64 rise, .int .i64 tick, .int .i64 0, .int .i64 0, .bool false, undef, undef, .int .i64 height, .bool true, .bool false, undef, .pointer (some ⟨w.heap.size, 0, none⟩), .pointer (some ⟨w.heap.size, 2, none⟩), .slice oa g.length oc, .int .i64 g.length, .bool false, undef, (.agg #[.int .i64 wd, .int .i64 hg, .slice oa g.length oc, tv, hv]), (.int .i64 rise), (.int .i64 tick), (V), (.agg #[.int .i64 wd, .int .i64 hg, .slice oa g.length oc, tv, hv]), (.int .i64 tick), (.int .i64 far), undef, undef, undef, undef, undef, undef, undef, undef, undef, undef, undef, undef, undef, undef, undef, undef, undef, undef, undef, undef, undef, undef, undef, undef, undef, undef, undef, undef, undef, undef, undef, undef, undef, undef, undef, undef, undef, undef, undef, undef], defers := [] } W by
    clear hK
    refine wp_region_inv (by kernel_rfl) (BsI w w3 wd hg height rise tick far oa g.length oc tv hv D) ⟨false, false, false, false, false, false, false, false, false, undef, rfl, rfl, (Below.refl _ w3).drew, by simp, by simp⟩ ?hend ?hstep
    case hend =>
      rintro listed a w' ⟨l0, l1, l2, l3, l4, l5, l6, l7, l8, V, rfl, rfl, hb, hV, k7⟩ hr
      have hAll := ready_all (by kernel_rfl) rfl hr 9
      have hall : l0 = true ∧ l1 = true ∧ l2 = true ∧ l3 = true ∧ l4 = true ∧ l5 = true ∧ l6 = true ∧ l7 = true ∧ l8 = true :=
        ⟨hAll 0 (by decide) (by simp), hAll 1 (by decide) (by simp), hAll 2 (by decide) (by simp), hAll 3 (by decide) (by simp), hAll 4 (by decide) (by simp), hAll 5 (by decide) (by simp), hAll 6 (by decide) (by simp), hAll 7 (by decide) (by simp), hAll 8 (by decide) (by simp)⟩
      obtain ⟨rfl, rfl, rfl, rfl, rfl, rfl, rfl, rfl, rfl⟩ := hall
      exact key V w' (Lib.hid ⟨hb, hV rfl⟩)
    case hstep =>
      rintro listed a w' i ⟨l0, l1, l2, l3, l4, l5, l6, l7, l8, V, rfl, rfl, hb, hV, k7⟩ hi
      obtain ⟨hf, o', ho', hp⟩ := mem_ready.1 hi
      have hi8 : i < 9 := (Array.getElem?_eq_some_iff.1 ho').1
      clear hi
      have hQD := HRDR.out w' hb
      match i, hi8 with
      | 0, _ =>
        obtain rfl : l0 = false := hf
        clear hp ho'
        unfold wpOp
        obtain ⟨q0, q1, q2, q3, q4⟩ := hQD
        go_simp
        exact .inl ⟨true, l1, l2, l3, l4, l5, l6, l7, l8, V, rfl, rfl, hb, hV, k7⟩
      | 1, _ =>
        obtain rfl : l1 = false := hf
        clear hp ho'
        unfold wpOp
        obtain ⟨q0, q1, q2, q3, q4⟩ := hQD
        go_simp
        exact .inl ⟨l0, true, l2, l3, l4, l5, l6, l7, l8, V, rfl, rfl, hb, hV, k7⟩
      | 2, _ =>
        obtain rfl : l2 = false := hf
        clear hp ho'
        unfold wpOp
        obtain ⟨q0, q1, q2, q3, q4⟩ := hQD
        go_simp
        exact .inl ⟨l0, l1, true, l3, l4, l5, l6, l7, l8, V, rfl, rfl, hb, hV, k7⟩
      | 3, _ =>
        obtain rfl : l3 = false := hf
        obtain rfl : l7 = false := by
          cases l7 with
          | false => rfl
          | true => exact absurd (k7 rfl) (by decide)
        cases ho'
        obtain rfl : l0 = true := hp ⟨0, .data⟩ (by simp) rfl
        obtain rfl : l1 = true := hp ⟨1, .data⟩ (by simp) rfl
        obtain rfl : l2 = true := hp ⟨2, .data⟩ (by simp) rfl
        clear hp
        unfold wpOp
        simp only [pickIf_true]
        obtain ⟨q0, q1, q2, q3, q4⟩ := hQD
        go_simp
        refine .inl ((HUNR.out w' hb).mono ?_)
        rintro e w55 ⟨v2, rfl, hPR, hb5⟩
        exact ⟨true, true, true, true, l4, l5, l6, false, l8, v2, rfl, rfl, hb.trans (hb5.mono hb.size), fun _ => hPR, fun h => (by cases h)⟩
      | 4, _ =>
        obtain rfl : l4 = false := hf
        clear hp ho'
        unfold wpOp
        obtain ⟨q0, q1, q2, q3, q4⟩ := hQD
        go_simp
        exact .inl ⟨l0, l1, l2, l3, true, l5, l6, l7, l8, V, rfl, rfl, hb, hV, k7⟩
      | 5, _ =>
        obtain rfl : l5 = false := hf
        clear hp ho'
        unfold wpOp
        obtain ⟨q0, q1, q2, q3, q4⟩ := hQD
        go_simp
        exact .inl ⟨l0, l1, l2, l3, l4, true, l6, l7, l8, V, rfl, rfl, hb, hV, k7⟩
      | 6, _ =>
        obtain rfl : l6 = false := hf
        cases ho'
        obtain rfl : l4 = true := hp ⟨4, .data⟩ (by simp) rfl
        obtain rfl : l5 = true := hp ⟨5, .data⟩ (by simp) rfl
        clear hp
        unfold wpOp
        simp only [pickIf_true]
        obtain ⟨q0, q1, q2, q3, q4⟩ := hQD
        go_simp
        refine .inl ((HFAR.out w' hb).mono ?_)
        rintro e w55 ⟨rfl, hb5⟩
        exact ⟨l0, l1, l2, l3, true, true, true, l7, l8, V, rfl, rfl, hb.trans (hb5.mono hb.size), fun h => ((hV h).keep hb5), k7⟩
      | 7, _ =>
        obtain rfl : l7 = false := hf
        cases ho'
        obtain rfl : l3 = true := hp ⟨3, .data⟩ (by simp) rfl
        clear hp
        unfold wpOp
        simp only [pickIf_true]
        obtain ⟨q0, q1, q2, q3, q4⟩ := hQD
        go_simp
        exact .inl ⟨l0, l1, l2, true, l4, l5, l6, true, l8, V, rfl, rfl, hb, hV, fun _ => rfl⟩
      | 8, _ =>
        obtain rfl : l8 = false := hf
        cases ho'
        obtain rfl : l6 = true := hp ⟨6, .data⟩ (by simp) rfl
        clear hp
        unfold wpOp
        simp only [pickIf_true]
        obtain ⟨q0, q1, q2, q3, q4⟩ := hQD
        go_simp
        exact .inl ⟨l0, l1, l2, l3, l4, l5, true, l7, true, V, rfl, rfl, hb, hV, k7⟩
  intro V W5 HVW
  show K _ _
  apply hK
  clear hK
  obtain ⟨hd5, hdr⟩ := HVW.out
  have HD5 := Lib.hid (HD2.out.trans (hd5.mono HD2.out.size))
  have HB5 := Lib.hid (HB0.out.trans (HD5.out.mono HB0.out.size))
  have HDR := Lib.hid hdr
  obtain ⟨da, dc, rfl, hdc⟩ := hdr.form
  clear hd5 hdr hdc HVW
  obtain ⟨q0, q1, q2, q3, q4⟩ := HRD.out W5 HD5.out
  go_wp2_with fail
  refine (HPL.out _ HB5.out).mono ?_
  rintro e w6 ⟨v6, rfl, hb6, hown⟩
  have hown2 : w6.ownsRow W5.heap.size 32 2 v6 (plN wd g.length).length ((plN wd g.length).flatMap encP) := by rw [plN_len]; exact hown
  have HPR := Lib.hid (PlRow.of_own hown2)
  have HD6 := Lib.hid (HD5.out.trans (hb6.mono HD5.out.size))
  have HB6 := Lib.hid (HB5.out.trans (hb6.mono HB5.out.size))
  have HDR6 := Lib.hid (HDR.out.keep hb6)
  obtain ⟨pa, pc, rfl, hpc⟩ := HPR.out.form
  rw [plN_len] at hpc ⊢
  have HPC := Lib.hid hpc
  obtain ⟨da', dc', hde, hdc⟩ := HDR6.out.form
  cases hde
  have HDC := Lib.hid hdc
  clear hb6 hown hown2 hpc HPR q0 q1 q2 q3 q4 hdc HDR HDR6
  have HSE : Hid (∀ x y a b w', onB wd hg (x, y) = true → onB wd hg (a, b) = true → Below w.heap.size w w' → Calls Try.prog 28 #[.agg #[.int .i64 wd, .int .i64 hg, .slice oa g.length oc], .agg #[.int .i64 0, .int .i64 x, .int .i64 y, .int .i64 height], .agg #[.int .i64 a, .int .i64 b], .int .i64 rise, .int .i64 far] w' fun e w'' => e = .returned (.bool (seB g wd ⟨0, x, y, height⟩ (a, b) rise far)) ∧ Below w'.heap.size w' w'') := Lib.hid (fun x y a b w' h1 h2 h => sees_any wd hg (.slice oa g.length oc) g 0 x y height a b rise far w' (HO.out.keep h) HM.out h1 h2 HX.out.1 HX.out.2 HFB.out)
  go_wp2_with fail
  go_loopw [14, 50] (fun v i wr => ∃ (k : Nat), k ≤ g.length ∧ i = .int .i64 k ∧ Hid (Below w6.heap.size w6 wr) ∧ Hid (wr.ownsRow w6.heap.size 3 1 v k ((gnL g wd height rise far D k).map (Value.int .i64 ·)))) (fun _ i _ => g.length - (intOf i).toNat)
  case atStart => exact ⟨0, Nat.zero_le _, rfl, Lib.hid (Below.refl _ _), Lib.hid (World.ownsRow_nil _ _ _ _)⟩
  case round =>
    obtain ⟨k, hk, rfl, hB, hO⟩ := hrel
    have HDR := Lib.hid (HD6.out.trans (hB.out.mono HD6.out.size))
    have HBR := Lib.hid (HB6.out.trans (hB.out.mono HB6.out.size))
    by_cases hkl : k < g.length
    · obtain ⟨pb, po, rfl, _, hpb, c0, c1⟩ := HPC.out k hkl
      have hki : (k : Int) < g.length := by omega
      have hk0 : (0 : Int) ≤ k := by omega
      rw [plN_get hkl] at c0 c1
      have HON := Lib.hid (plI_on HM.out hkl)
      have HGS := Lib.hid (gnL_succ g wd height rise far D k)
      obtain ⟨⟨x, y⟩, hxy⟩ : ∃ q, plI wd k = q := ⟨_, rfl⟩
      rw [hxy] at c0 c1 HON HGS
      simp only at c0 c1 HGS
      have e0 := (hB.out.cell (p := ⟨pb, _, none⟩) hpb).trans c0
      have e1 := (hB.out.cell (p := ⟨pb, _, none⟩) hpb).trans c1
      have hYY := (Below.refl _ wr).alloc (Nat.le_refl _) (.cells #[.int .i64 x, .int .i64 y] 32)
      have HYB := Lib.hid (hB.out.trans (hYY.mono hB.out.size))
      have HYO := Lib.hid (own_below hO.out hYY)
      have HYR : Hid ((wr.alloc (.cells #[.int .i64 x, .int .i64 y] 32)).heap[wr.heap.size]? = some (.cells #[.int .i64 x, .int .i64 y] 32 (0, 0))) := Lib.hid (heap_alloc_new _ _)
      clear c0 c1 hxy hpb hYY
      go_wp2_with fail
      obtain ⟨Y, hY⟩ : ∃ Y, wr.alloc (.cells #[.int .i64 x, .int .i64 y] 32) = Y := ⟨_, rfl⟩
      rw [hY] at HYB HYO HYR ⊢
      obtain ⟨s8, hs8⟩ : ∃ s, wr.heap.size = s := ⟨_, rfl⟩
      rw [hs8] at HYR ⊢
      clear hY hs8 e0 e1 hB hO HDR HBR
      go_loopw [17, 56] (fun c j wQ => ∃ (jn : Nat), jn ≤ D.length ∧ j = .int .i64 jn ∧ c = .int .i64 (gnC g wd ⟨0, x, y, height⟩ rise far (D.take jn) : Nat) ∧ Hid (Below w6.heap.size w6 wQ) ∧ Hid (wQ.ownsRow w6.heap.size 3 1 u14 k ((gnL g wd height rise far D k).map (Value.int .i64 ·))) ∧ Hid (wQ.heap[s8]? = some (.cells #[.int .i64 x, .int .i64 y] 32 (0, 0)))) (fun _ j _ => D.length - (intOf j).toNat)
      case atStart => exact ⟨0, Nat.zero_le _, rfl, rfl, HYB, HYO, HYR⟩
      case round =>
        obtain ⟨jn, hjn, rfl, rfl, hB2, hO2, hS2⟩ := hrel
        by_cases hjl : jn < D.length
        · obtain ⟨qb, qo, rfl, _, hqb, d0, d1⟩ := HDC.out jn hjl
          have hji : (jn : Int) < D.length := by omega
          have hj0 : (0 : Int) ≤ jn := by omega
          have hDl : D.length ≤ 200 := Nat.le_trans HNL.out hg2
          have HQN := Lib.hid (HNO.out _ (show D.getD jn (0, 0) ∈ D by rw [List.getD_eq_getElem?_getD, List.getElem?_eq_getElem hjl]; exact List.getElem_mem _))
          have HCS := Lib.hid (gnC_succ g wd ⟨0, x, y, height⟩ rise far hjl)
          have HCB := Lib.hid (gnC_le g wd ⟨0, x, y, height⟩ rise far (D.take jn))
          obtain ⟨⟨a, b⟩, hab⟩ : ∃ q, D.getD jn (0, 0) = q := ⟨_, rfl⟩
          rw [hab] at d0 d1 HQN HCS
          simp only at d0 d1
          have e0 := (hB2.out.cell (p := ⟨qb, _, none⟩) hqb).trans d0
          have e1 := (hB2.out.cell (p := ⟨qb, _, none⟩) hqb).trans d1
          have hZZ := (Below.refl _ wr).alloc (Nat.le_refl _) (.cells #[.int .i64 a, .int .i64 b] 32)
          have HZB := Lib.hid (hB2.out.trans (hZZ.mono hB2.out.size))
          have HZO := Lib.hid (own_below hO2.out hZZ)
          have HZS := Lib.hid ((hZZ.block _ (Array.getElem?_eq_some_iff.1 hS2.out).1).trans hS2.out)
          have HZR : Hid ((wr.alloc (.cells #[.int .i64 a, .int .i64 b] 32)).heap[wr.heap.size]? = some (.cells #[.int .i64 a, .int .i64 b] 32 (0, 0))) := Lib.hid (heap_alloc_new _ _)
          have HZW := Lib.hid (HB6.out.trans (HZB.out.mono HB6.out.size))
          obtain ⟨q0, q1, q2, q3, q4⟩ := HRD.out _ (HD6.out.trans (HZB.out.mono HD6.out.size))
          have s0 := cellH HZS.out 0
          have s1 := cellH HZS.out 1
          have r0 := cellH HZR.out 0
          have r1 := cellH HZR.out 1
          simp only [List.getElem?_toArray, List.getElem?_cons_zero, List.getElem?_cons_succ] at s0 s1 r0 r1
          have HSC := Lib.hid (fun w' h => HSE.out x y a b w' HON.out HQN.out h)
          obtain ⟨fb, hfb⟩ : ∃ z, seB g wd ⟨0, x, y, height⟩ (a, b) rise far = z := ⟨_, rfl⟩
          rw [hfb] at HSC HCS
          obtain ⟨c, hc⟩ : ∃ c, gnC g wd ⟨0, x, y, height⟩ rise far (D.take jn) = c := ⟨_, rfl⟩
          rw [hc] at HCS HCB ⊢
          clear d0 d1 hab hqb hZZ hfb hc
          go_wp2_with fail
          refine (HSC.out _ HZW.out).mono ?_
          rintro e w8 ⟨rfl, hb8⟩
          have HB8 := Lib.hid (HZB.out.trans (hb8.mono HZB.out.size))
          have HO8 := Lib.hid (own_below HZO.out hb8)
          have HS8 := Lib.hid ((hb8.block _ (Array.getElem?_eq_some_iff.1 HZS.out).1).trans HZS.out)
          clear hb8 q0 q1 q2 q3 q4 s0 s1 r0 r1 e0 e1
          have hcb : c ≤ 2401 := by have h1 := HCB.out; have h2 := HNL.out; rw [List.length_take] at h1; omega
          cases fb
          · have HN2 : Hid (((gnC g wd ⟨0, x, y, height⟩ rise far (D.take (jn + 1)) : Nat) : Int) = c) := Lib.hid (by rw [HCS.out]; simp)
            go_wp2_with fail
            go_roundw
            case rel => exact ⟨jn + 1, by omega, by go_num, by rw [HN2.out], HB8, HO8, HS8⟩
            case measure => simp [intOf]; omega
          · have HN2 : Hid (((gnC g wd ⟨0, x, y, height⟩ rise far (D.take (jn + 1)) : Nat) : Int) = (c : Int) + 1) := Lib.hid (by rw [HCS.out]; simp)
            go_wp2_with fail
            go_roundw
            case rel => exact ⟨jn + 1, by omega, by go_num, by rw [HN2.out], HB8, HO8, HS8⟩
            case measure => simp [intOf]; omega
        · obtain rfl : jn = D.length := by omega
          rw [List.take_length]
          obtain ⟨c, hc⟩ : ∃ c, gnC g wd ⟨0, x, y, height⟩ rise far D = c := ⟨_, rfl⟩
          rw [hc] at HGS ⊢
          have hO6 := hO2.out
          have h63 : k + 1 ≤ maxLen := by unfold maxLen; omega
          have hby : (k + 1) * 8 ≤ 140737488355328 := by omega
          have hbase : w6.heap.size ≤ wr.heap.size := hB2.out.size
          clear hc
          go_wp2_with (at_builtin; refine wpList_append_own _ rfl _ _ 22 rfl w6.heap.size 3 i0 (.int .i64 0) 1 8 Try.underlying22 hi0 hz0 hz1 hz2 rfl (by decide) _ _ _ rfl (World.ownsRow.alloc hO6 _) ⟨wr.heap.size, 0, none⟩ 1 1 [.int .i64 c] rfl rfl (fun j u h => cell_one' _ _ _ j u h) (by simp [Value.oneCell']) h63 hby (by simp; omega) ?_; intro v' w7 hown' hgrow _)
          have HB7 : Hid (Below w6.heap.size w6 w7) := Lib.hid ((hB2.out.alloc hbase _).grown hgrow (by simp; omega) (fun j e => (World.ownsRow.lt hO6 j e).1))
          have HO7 : Hid (w7.ownsRow w6.heap.size 3 1 v' (k + 1) ((gnL g wd height rise far D (k + 1)).map (Value.int .i64 ·))) := Lib.hid (by rw [HGS.out, List.map_append]; exact hown')
          clear hown' hgrow hO6
          go_wp2_with fail
          go_roundw
          case rel => exact ⟨k + 1, by omega, by go_num, HB7, HO7⟩
          case measure => simp [intOf]; omega
    · obtain rfl : k = g.length := by omega
      have hO9 := hO.out
      rw [HGE.out] at hO9
      have hrow : INRow wr u14 G := by
        have h1 : wr.ownsRow w6.heap.size 3 1 u14 (G.map (Value.int .i64 ·)).length (G.map (Value.int .i64 ·)) := by rw [List.length_map, HGL.out]; exact hO9
        rcases own_row1 h1 with ⟨h1, h2⟩ | ⟨g9, c9, h1, _, _, h4, h5⟩
        · rw [List.map_eq_nil_iff.1 h2]; exact .inl ⟨_, _, h1, rfl⟩
        · rw [List.length_map] at h1
          exact .inr ⟨g9, 0, c9, h1, h4, fun i hi => by rw [Nat.zero_add]; exact h5 i _ (by rw [List.getElem?_map, List.getElem?_eq_getElem hi, List.getD_eq_getElem?_getD, List.getElem?_eq_getElem hi]; rfl)⟩
      have HROW := Lib.hid hrow
      have hgl9 : G.length ≤ 100000 := by rw [HGL.out]; omega
      have HG1 : Hid (Calls Try.prog 29 #[.int .i64 0, u14] wr fun e w' => e = .returned (.int .i64 M) ∧ Below wr.heap.size wr w') := Lib.hid (by have h9 := greatest_any 0 u14 G wr hrow hgl9; rw [HME.out] at h9; exact h9)
      obtain ⟨ga, gc, rfl, _⟩ := hrow.form
      have HIX : Hid (∀ w', INRow w' (.slice ga G.length gc) G → Calls Try.prog 31 #[.slice ga G.length gc, .int .i64 M] w' fun e w'' => e = .returned (.int .i64 (m : Nat)) ∧ Below w'.heap.size w' w'') := Lib.hid (fun w' h => by have h9 := Index_any (.slice ga G.length gc) G M w' h hgl9; rw [HM2.out] at h9; exact h9)
      have HOW := Lib.hid hO9
      have HDR := Lib.hid (HD6.out.trans (hB.out.mono HD6.out.size))
      have HBR := Lib.hid (HB6.out.trans (hB.out.mono HB6.out.size))
      clear hrow hO9 hO
      go_wp2_with fail
      refine HG1.out.mono ?_
      rintro e w8 ⟨rfl, hb8⟩
      have HD8 := Lib.hid (HDR.out.trans (hb8.mono HDR.out.size))
      have HB8 := Lib.hid (HBR.out.trans (hb8.mono HBR.out.size))
      have H68 := Lib.hid (hB.out.trans (hb8.mono hB.out.size))
      obtain ⟨px, py, hpp⟩ : ∃ px py : Int, plI wd m = (px, py) := ⟨_, _, rfl⟩
      rw [hpp] at HPK
      simp only at HPK
      have HPP := Lib.hid hpp
      obtain ⟨q0, q1, q2, q3, q4⟩ := HRD.out _ HD8.out
      have hCC : BsC w w6.heap.size wd hg (.slice oa g.length oc) tv hv (.slice ga G.length gc) g.length G px py #[] w8 := ⟨HB8.out, HRC.out _ HD8.out, Nat.lt_of_lt_of_le HSZ.out HD6.out.size, own_below HOW.out hb8, 0, 0, HRE.out _ HD8.out, fun h => by simp at h⟩
      have HCC := Lib.hid hCC
      clear hb8 hCC hpp
      go_wp2_with fail
      refine wp_region_turn 9 (BsC w w6.heap.size wd hg (.slice oa g.length oc) tv hv (.slice ga G.length gc) g.length G px py) (by kernel_rfl) (by kernel_rfl) HCC.out.drew0 ?_
      simp only [List.take_succ_cons, List.take_zero, List.drop_succ_cons, List.drop_zero]
      iterate 4
        (apply turnG_step (by rfl); (intro listed w' hC; have c0 := cellH hC.2.1 0; have c1 := cellH hC.2.1 1; have c2 := cellH hC.2.1 2; simp only [List.getElem?_toArray, List.getElem?_cons_zero, List.getElem?_cons_succ] at c0 c1 c2; go_simp; first | exact ⟨hC.go (by decide), rfl⟩ | exact hC.go (by decide)))
        simp only [Act.put, List.setIfInBounds_toArray, List.set_cons_succ, List.set_cons_zero]
      (apply turnG_step (by rfl); (intro listed w' hC; go_simp; exact (HIX.out w' (hC.row HGL.out.symm)).mono fun e w'' ⟨he, hb⟩ => ⟨he, (hC.keep hb).go (by decide)⟩))
      simp only [Act.put, List.setIfInBounds_toArray, List.set_cons_succ, List.set_cons_zero]
      (apply turnG_step (by rfl); (intro listed w' hC; go_simp; exact (HPK.out w').mono fun e w'' ⟨he, hb⟩ => ⟨he, (hC.keep hb).go (by decide)⟩))
      simp only [Act.put, List.setIfInBounds_toArray, List.set_cons_succ, List.set_cons_zero]
      (apply turnG_step (by rfl); (intro listed w' hC; go_simp; first | exact ⟨hC.go (by decide), rfl⟩ | exact hC.go (by decide)))
      simp only [Act.put, List.setIfInBounds_toArray, List.set_cons_succ, List.set_cons_zero]
      (apply turnG_step (v := undef) (by rfl); (intro listed w' hC; have hC2 := hC.store; obtain ⟨_, _, _, _, a, b, h7, _⟩ := hC; have x0 := cellH h7 0; have x1 := cellH h7 1; have xf := freeH h7; simp at x0 x1; go_simp <;> first | exact ⟨hC2, rfl⟩ | exact hC2))
      simp only [Act.put, List.setIfInBounds_toArray, List.set_cons_succ, List.set_cons_zero]
      (apply turnG_step (by rfl); (intro listed w' hC; go_simp; first | exact ⟨hC.go (by decide), rfl⟩ | exact hC.go (by decide)))
      simp only [Act.put, List.setIfInBounds_toArray, List.set_cons_succ, List.set_cons_zero]
      intro listed w9 hl9 hC9
      obtain ⟨h1, _, _, _, a, b, h7, h8⟩ := hC9
      obtain ⟨rfl, rfl⟩ := h8 (hl9 7 (by decide))
      have HB9 := Lib.hid h1
      have HR9 := Lib.hid h7
      have x0 := cellH h7 0
      have x1 := cellH h7 1
      simp at x0 x1
      clear h1 h7 h8 hl9 q0 q1 q2 q3 q4
      go_wp2_with fail
      refine bodyPost_ret (be_results (a := .int .i64 a) (b := .int .i64 b) (c := .int .i64 M) (d := .int .i64 0) rfl rfl rfl HR9.out) rfl ⟨m, HM1.out, rfl, by rw [HPP.out], HB9.out⟩
end Go.Proofs.Ytnacgogcbbpjmaa

/-! Best of package ridge where something is wrong. -/
set_option linter.unusedVariables false
set_option linter.unusedSimpArgs false
namespace Go.Proofs.Ytnacgogcbbpjmaa
open Go Go.RowKit

set_option maxRecDepth 100000 in
set_option maxHeartbeats 8000000 in
theorem Best_bad (wd hg : Int) (o tv hv : Value) (g : List Int) (T : List Tw) (H : List Hz) (height rise tick : Int) (w : World) (ho : INRow w o g) (hl : g.length ≤ 9223372036854775807) (ht : TwRow w tv T) (htl : T.length ≤ 9223372036854775807) (hh : HzRow w hv H) (hhl : H.length ≤ 9223372036854775807) (hE : beE wd hg g T H height rise tick ≠ 0) :
    Calls Try.prog 7 #[coV wd hg o tv hv, .int .i64 height, .int .i64 rise, .int .i64 tick] w fun e w' => e = .returned (.tuple #[.agg #[.int .i64 0, .int .i64 0], .int .i64 0, .int .i64 (beE wd hg g T H height rise tick)]) ∧ Below w.heap.size w w' := by
  have HCV := Lib.hid (fun w' (h : Below w.heap.size w w') => checkView_any wd hg o tv hv g T H rise tick w' (ho.keep h) hl (ht.keep h) htl (hh.keep h) hhl)
  have HVT := Lib.hid (validTall_any height)
  obtain ⟨oa, oc, rfl, _⟩ := ho.form
  obtain ⟨W1, hW1, hb0, hs1, hrd⟩ := co_reads w wd hg (.slice oa g.length oc) tv hv
  have HW1 := Lib.hid hW1; have HB0 := Lib.hid hb0; have HRD := Lib.hid hrd
  have hY1 := (Below.refl _ W1).alloc (Nat.le_refl _) (.cells #[.int .i64 0, .int .i64 0] 32)
  have hs9 : W1.heap.size = w.heap.size + 1 := by rw [hW1]; simp
  have HRE : Hid (∀ W', Below (W1.alloc (.cells #[.int .i64 0, .int .i64 0] 32)).heap.size (W1.alloc (.cells #[.int .i64 0, .int .i64 0] 32)) W' → W'.heap[w.heap.size + 1]? = some (.cells #[.int .i64 0, .int .i64 0] 32 (0, 0))) := Lib.hid (fun W' h => (h.block (w.heap.size + 1) (by simp; omega)).trans (gAt W1 _ _ hs9.symm))
  have HRD2 := Lib.hid (fun W' (h : Below (W1.alloc (.cells #[.int .i64 0, .int .i64 0] 32)).heap.size (W1.alloc (.cells #[.int .i64 0, .int .i64 0] 32)) W') => hrd W' (hY1.trans (h.mono hY1.size)))
  have HB1 := Lib.hid (hb0.trans (hY1.mono hb0.size))
  clear hY1 hs1 hb0 hrd HB0 HRD hs9 hW1
  clear ho ht hh hl htl hhl
  unfold beE at hE ⊢
  obtain ⟨E, hEE⟩ : ∃ x, cvE wd hg g T H rise tick = x := ⟨_, rfl⟩
  rw [hEE] at HCV hE ⊢
  clear hEE
  unfold coV at HCV
  unfold coV
  by_cases hE0 : E = 0
  · subst hE0
    rw [if_pos rfl] at hE ⊢
    cases qh : wiB height 0 200
    · rw [qh] at HVT
      rw [if_neg (by decide)]
      clear qh hE
      go_enter Try.func7, Try.ntmps7
      go_wp2_with fail
      rw [← HW1.out]
      obtain ⟨q0, q1, q2, q3, q4⟩ := HRD2.out _ (Below.refl _ _)
      go_wp2_with fail
      refine (HCV.out _ HB1.out).mono ?_
      rintro e w2 ⟨rfl, hb2⟩
      have HD2 := Lib.hid hb2
      have HB2 := Lib.hid (HB1.out.trans (hb2.mono HB1.out.size))
      clear hb2 q0 q1 q2 q3 q4
      go_wp2_with fail
      refine (HVT.out _).mono ?_
      rintro e w3 ⟨rfl, rfl⟩
      have hr := HRE.out w3 HD2.out
      have HN := Lib.hid hr
      have x0 := cellH hr 0
      have x1 := cellH hr 1
      have xf := freeH hr
      simp at x0 x1
      go_wp2_with fail
      refine bodyPost_ret (be_results (a := .int .i64 0) (b := .int .i64 0) (c := .int .i64 0) (d := .int .i64 1) rfl rfl rfl (heap_same (heap_same HN.out 0 _) 1 _)) rfl ⟨rfl, (HB2.out.setCell (p := ⟨w.heap.size + 1, 0, none⟩) (by simp only; omega) _).setCell (p := ⟨w.heap.size + 1, 1, none⟩) (by simp only; omega) _⟩
    · rw [qh] at HVT
      rw [if_pos qh] at hE
      have hgl : ¬ g.length ≤ 200 := fun h => hE (if_pos h)
      rw [if_pos rfl, if_neg hgl]
      have hq200 : decide (200 < (g.length : Int)) = true := by simp; omega
      have hq3 : (200 : Int) < g.length := by omega
      clear qh hE
      go_enter Try.func7, Try.ntmps7
      go_wp2_with fail
      rw [← HW1.out]
      obtain ⟨q0, q1, q2, q3, q4⟩ := HRD2.out _ (Below.refl _ _)
      go_wp2_with fail
      refine (HCV.out _ HB1.out).mono ?_
      rintro e w2 ⟨rfl, hb2⟩
      have HD2 := Lib.hid hb2
      have HB2 := Lib.hid (HB1.out.trans (hb2.mono HB1.out.size))
      clear hb2 q0 q1 q2 q3 q4
      go_wp2_with fail
      refine (HVT.out _).mono ?_
      rintro e w3 ⟨rfl, rfl⟩
      obtain ⟨q0, q1, q2, q3, q4⟩ := HRD2.out _ HD2.out
      have hr := HRE.out w3 HD2.out
      have HN := Lib.hid hr
      have x0 := cellH hr 0
      have x1 := cellH hr 1
      have xf := freeH hr
      simp at x0 x1
      go_wp2_with fail
      refine bodyPost_ret (be_results (a := .int .i64 0) (b := .int .i64 0) (c := .int .i64 0) (d := .int .i64 2) rfl rfl rfl (heap_same (heap_same HN.out 0 _) 1 _)) rfl ⟨rfl, (HB2.out.setCell (p := ⟨w.heap.size + 1, 0, none⟩) (by simp only; omega) _).setCell (p := ⟨w.heap.size + 1, 1, none⟩) (by simp only; omega) _⟩
  · rw [if_neg hE0] at hE ⊢
    have qe : (E != 0) = true := by simpa using hE0
    go_enter Try.func7, Try.ntmps7
    go_wp2_with fail
    rw [← HW1.out]
    obtain ⟨q0, q1, q2, q3, q4⟩ := HRD2.out _ (Below.refl _ _)
    go_wp2_with fail
    refine (HCV.out _ HB1.out).mono ?_
    rintro e w2 ⟨rfl, hb2⟩
    have HD2 := Lib.hid hb2
    have HB2 := Lib.hid (HB1.out.trans (hb2.mono HB1.out.size))
    clear hb2 q0 q1 q2 q3 q4
    have hr := HRE.out w2 HD2.out
    have HN := Lib.hid hr
    have x0 := cellH hr 0
    have x1 := cellH hr 1
    have xf := freeH hr
    simp at x0 x1
    go_wp2_with fail
    refine bodyPost_ret (be_results (a := .int .i64 0) (b := .int .i64 0) (c := .int .i64 0) (d := .int .i64 E) rfl rfl rfl (heap_same (heap_same HN.out 0 _) 1 _)) rfl ⟨rfl, (HB2.out.setCell (p := ⟨w.heap.size + 1, 0, none⟩) (by simp only; omega) _).setCell (p := ⟨w.heap.size + 1, 1, none⟩) (by simp only; omega) _⟩
end Go.Proofs.Ytnacgogcbbpjmaa
