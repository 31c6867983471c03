/- choices of package beam: the recursion. -/
import Derived.Test.YtjhkgfbkpgnodaaGreatDoorY9
import Derived.Test.YtjhkgfbkpgnodaaGreatDoorR0
import Derived.Test.YtjhkgfbkpgnodaaGreatDoorF2
import Derived.Deep.RegionLaw
import Derived.Deep.RegionLawGrows
namespace Go.Proofs.YtjhkgfbkpgnodaaGreatDoor
open Go.RowKit Go.Shelf
attribute [local go_sem] Oper.semAt_some

theorem step_append_own {P : Program} {ops : Array Oper} {o : Oper} {a : Act} {w : World} {K : Act → World → Prop} {Q : Exit → Act → World → Prop} {E : Prop}
    (hg : o.guard = none) (s x : Operand) (t : TypeId) (hop : o.op = Op.call { callee := Callee.builtin Builtin.append, args := #[s, x], argTypes := #[t, t] })
    (e : TypeId) (i : TypeInfo) (z : Value) (size bytes : Nat) (h1 : P.underlying t = some (.slice e)) (h2 : P.info? e = some i) (h3 : i.zero = some z) (h4 : i.size = size) (h5 : i.bytes = bytes) (h6 : z.cells.size = size) (h7 : 0 < size)
    (base : Nat) (v : Value) (n : Nat) (olds : List Value) (hs : a.eval s = v) (hown : w.ownsRow base e size v n olds)
    (ad : Addr) (m c : Nat) (news : List Value) (hx : a.eval x = .slice (some ad) m c) (hn : news.length = m * size) (hc : ∀ j u, news[j]? = some u → w.cell? (ad.add j) = some u) (h1c : ∀ u ∈ news, u.oneCell' = true)
    (b1 : n + m ≤ maxLen) (b2 : (n + m) * bytes ≤ 140737488355328) (hb : base ≤ w.heap.size)
    (hK : ∀ v' w', w'.ownsRow base e size v' (n + m) (olds ++ news) → w.grownBy w' v.ownBlock → K (a.put o.dst v') w') :
    if Region.wanted o (yielded ops a.tmps) = true then Oper.wp P o a w K Q else E := by
  have hw : Region.wanted o (yielded ops a.tmps) = true := by simp [Region.wanted, hg]
  rw [if_pos hw]
  obtain ⟨v', w', hrun, r1, r2, _⟩ := run_append_own (P := P) w base t o.type e i z size bytes h1 h2 h3 h4 h5 h6 h7 v n olds hown ad m c news hn hc h1c b1 b2 hb
  unfold Oper.wp
  simp [execOp, hop, resolve, invoke, builtin, hs, hx, hrun, Result.andThen]
  exact hK v' w' r1 r2

/-- All cells are as they were. -/
def KC (A X : World) : Prop := A.heap.size ≤ X.heap.size ∧ ∀ (b : Nat) (C : Array Value) (t : TypeId) (fr : Nat × Nat), A.heap[b]? = some (Obj.cells C t fr) → X.heap[b]? = some (Obj.cells C t fr)
theorem KC.refl (A : World) : KC A A := ⟨Nat.le_refl _, fun _ _ _ _ h => h⟩
theorem KC.trans {A X Y : World} (h : KC A X) (k : KC X Y) : KC A Y := ⟨Nat.le_trans h.1 k.1, fun b C t fr hb => k.2 b C t fr (h.2 b C t fr hb)⟩
theorem KC.of_below {A X : World} (h : Below A.heap.size A X) : KC A X := ⟨h.size, fun b C t fr hb => (h.block b (Array.getElem?_eq_some_iff.1 hb).1).trans hb⟩
theorem KC.cell {A X : World} (h : KC A X) {p : Addr} {v : Value} (hc : A.cell? p = some v) : X.cell? p = some v := by
  unfold World.cell? at hc ⊢
  split at hc
  · rename_i C t fr hb
    rw [h.2 _ _ _ _ hb]; exact hc
  · cases hc
theorem IRow.kc {w w' : World} {v : Value} {l : List Nat} (h : IRow w v l) (hb : KC w w') : IRow w' v l := by
  rcases h with h | ⟨b, cap, h1, h2, h3, h4⟩
  · exact .inl h
  · exact .inr ⟨b, cap, h1, h2, Nat.lt_of_lt_of_le h3 hb.1, fun i hi => hb.cell (h4 i hi)⟩
theorem ItG.of_below {A X : World} (h : Below A.heap.size A X) : ItG A X := ⟨h.os, h.tape, h.output, h.size, fun k hk _ => h.block k hk⟩

/-- The boxes of choices: whom it yields to, how many of how many, the recursion itself. -/
structure ChB (W : World) (lp Yb Sb Nb Eb size n : Nat) : Prop where
  y : W.cell? ⟨Yb, 0, none⟩ = some (.func (.yield lp) #[] #[])
  s : W.cell? ⟨Sb, 0, none⟩ = some (.int .i64 size)
  n : W.cell? ⟨Nb, 0, none⟩ = some (.int .i64 n)
  e : W.cell? ⟨Eb, 0, none⟩ = some (.func (.func 89) #[] #[.pointer (some ⟨Sb, 0, none⟩), .pointer (some ⟨Yb, 0, none⟩), .pointer (some ⟨Nb, 0, none⟩), .pointer (some ⟨Eb, 0, none⟩)])
theorem ChB.kc {W X : World} {lp Yb Sb Nb Eb size n : Nat} (h : ChB W lp Yb Sb Nb Eb size n) (k : KC W X) : ChB X lp Yb Sb Nb Eb size n := ⟨k.cell h.y, k.cell h.s, k.cell h.n, k.cell h.e⟩

abbrev Pick := Value × List Nat
def HearsP (lp n size : Nat) (J Jx : List Pick → World → Prop) (total : Nat) : Prop :=
  ∀ m pre (x : Pick) W1, J pre W1 → (IRow W1 x.1 x.2 ∧ (∀ y ∈ x.2, y < n) ∧ x.2.length = size) → pre.length < total → YieldAt Fence.wide m Tryz.prog lp #[x.1] W1 fun e W' =>
    (e = .returned (.bool true) ∧ J (pre ++ [x]) W' ∧ KC W1 W') ∨ (e = .returned (.bool false) ∧ Jx (pre ++ [x]) W')
def PickPost (W : World) (J Jx : List Pick → World → Prop) (all : List (List Nat)) (pre : List Pick) (ls : List (List Nat)) (e : Ending) (W' : World) : Prop :=
  ∃ bb : Bool, e = .returned (.bool bb) ∧ (bb = true → ∃ xs : List Pick, xs.map Prod.snd = ls ∧ J (pre ++ xs) W' ∧ KC W W') ∧ (bb = false → ∃ pre' : List Pick, pre'.map Prod.snd <+: all ∧ Jx pre' W')
theorem nextN_le {n : Nat} {l : List Nat} (h : ∀ x ∈ l, x < n) : nextN l ≤ n := by
  unfold nextN
  split
  · omega
  · rename_i x hx; exact h x (List.mem_of_getLast? hx)
theorem nextN_last {l : List Nat} (h : l ≠ []) : nextN l = l.getD (l.length - 1) 0 + 1 := by
  unfold nextN
  rw [List.getLast?_eq_getElem?, List.getD_eq_getElem?_getD]
  have : l.length - 1 < l.length := by have := List.length_pos_iff.2 h; omega
  rw [List.getElem?_eq_getElem this]; rfl
theorem pick_len {xs pre : List Pick} {all ls : List (List Nat)} (h : pre.map Prod.snd ++ ls <+: all) (hls : 0 < ls.length) : pre.length < all.length := by
  have := h.length_le
  simp at this; omega

set_option maxRecDepth 100000 in
set_option maxHeartbeats 4000000 in
theorem extend_zero (lp Yb Sb Nb Eb n size : Nat) (J Jx : List Pick → World → Prop) (all : List (List Nat)) (hH : HearsP lp n size J Jx all.length)
    (l : List Nat) (v : Value) (pre : List Pick) (W : World) (d : Nat) (hl : l.length = size) (hlt : ∀ y ∈ l, y < n) (hv : IRow W v l) (hpre : pre.map Prod.snd ++ [l] <+: all) (hJ0 : J pre W) (hB : ChB W lp Yb Sb Nb Eb size n) :
    CallsIn Fence.wide d Tryz.prog 89 #[v, .pointer (some ⟨Sb, 0, none⟩), .pointer (some ⟨Yb, 0, none⟩), .pointer (some ⟨Nb, 0, none⟩), .pointer (some ⟨Eb, 0, none⟩)] W (PickPost W J Jx all pre [l]) := by
  obtain ⟨fn, tmps, assign, body, hy, hR⟩ := hH (d - 1) pre (v, l) W hJ0 ⟨hv, hlt, hl⟩ (by have := hpre.length_le; simp at this; omega)
  subst hl
  obtain ⟨a, cap, rfl, hc⟩ := hv.form
  have hcy := hB.y
  have hcs := hB.s
  have hz : ((l.length : Int) == l.length) = true := by simp
  have HPR : Hid (pre.map Prod.snd ++ [l] <+: all) := Lib.hid hpre
  clear hH hv hpre hJ0 hB hc hlt
  refine callsIn_of_wp Tryz.func89 rfl trivial ?_ rfl
  simp only [Tryz.ntmps89, List.size_toArray, List.length_cons, List.length_nil, Nat.reduceAdd, Nat.reduceSub, Array.replicate_succ, Array.replicate_zero, List.push_toArray, List.append_toArray, List.nil_append, List.cons_append]
  gi_wp2
  refine ⟨(fun h => by cases h), ?_⟩
  refine hR.mono ?_
  rintro e W3 (⟨rfl, hJ3, hk3⟩ | ⟨rfl, hJx3⟩)
  · gi_wp2
    exact bodyPost_ret (results_tmp rfl _ _ _) rfl ⟨true, rfl, fun _ => ⟨[(_, l)], rfl, hJ3, hk3⟩, fun h => by cases h⟩
  · gi_wp2
    exact bodyPost_ret (results_tmp rfl _ _ _) rfl ⟨false, rfl, (fun h => by cases h), fun _ => ⟨_, by rw [List.map_append]; exact HPR.out, hJx3⟩⟩
end Go.Proofs.YtjhkgfbkpgnodaaGreatDoor

/-! choices of package beam: the recursion, all of it. -/
namespace Go.Proofs.YtjhkgfbkpgnodaaGreatDoor
open Go.RowKit Go.Shelf
attribute [local go_sem] Oper.semAt_some

/-- nil for no numbers, a row otherwise. -/
def NRow (w : World) (v : Value) (l : List Nat) : Prop := (v = .slice none 0 0 ∧ l = []) ∨ (l ≠ [] ∧ IRow w v l)
theorem NRow.row {w : World} {v : Value} {l : List Nat} (h : NRow w v l) : IRow w v l := by
  rcases h with h | h
  · exact .inl h
  · exact h.2
theorem NRow.kc {w w' : World} {v : Value} {l : List Nat} (h : NRow w v l) (k : KC w w') : NRow w' v l := by
  rcases h with h | h
  · exact .inl h
  · exact .inr ⟨h.1, h.2.kc k⟩
theorem clone_any {w : World} {v : Value} {l : List Nat} (h : NRow w v l) (hl : l.length ≤ 1000) : Calls Tryz.prog 90 #[v] w fun e w' => ∃ v', e = .returned v' ∧ w'.ownsRow w.heap.size 3 1 v' l.length (l.map encI) ∧ Below w.heap.size w w' := by
  rcases h with ⟨rfl, rfl⟩ | ⟨hne, h⟩
  · refine (Tryz.slices_Clone_int_nil 0 0 w).mono ?_
    rintro e w' ⟨rfl, rfl⟩
    exact ⟨_, rfl, World.ownsRow_nil _ _ _ _, Below.refl _ _⟩
  · rcases h with ⟨_, h0⟩ | ⟨b, cap, rfl, h2, h3, h4⟩
    · exact absurd h0 hne
    · refine (Tryz.slices_Clone_int b 0 l.length cap (l.map (fun x : Nat => (x : Int))) w (by simp) (by omega) (fun j hj => by
        have hj' : j < l.length := by simpa using hj
        rw [Nat.zero_add, h4 j hj']
        simp [List.getD_eq_getElem?_getD, List.getElem?_eq_getElem hj'])).mono ?_
      rintro e w' ⟨v', rfl, hr, _, hb⟩
      refine ⟨v', rfl, ?_, hb⟩
      rw [List.take_of_length_le (by simp), List.map_map] at hr
      exact hr
theorem ext_pre {n m : Nat} {l : List Nat} {pre xs : List Pick} {all : List (List Nat)} {t : Nat} (h : pre.map Prod.snd ++ extL n (m + 1) l <+: all) (ht : t < n - nextN l) (hx : xs.map Prod.snd = stepsE n m l t) :
    (pre ++ xs).map Prod.snd ++ extL n m (l ++ [nextN l + t]) <+: all := by
  refine List.IsPrefix.trans ?_ h
  rw [List.map_append, hx, List.append_assoc, ← stepsE_succ, extL_succ]
  exact (List.prefix_append_right_inj _).2 (stepsE_mono n m l (by omega))

set_option maxRecDepth 100000 in
set_option maxHeartbeats 4000000 in
theorem extend_any (lp Yb Sb Nb Eb n size : Nat) (hn : n ≤ 4) (hs : size ≤ 4) (J Jx : List Pick → World → Prop) (all : List (List Nat)) (hJ : ∀ p A B, J p A → ItG A B → J p B) (hH : HearsP lp n size J Jx all.length) :
    ∀ (m : Nat) (l : List Nat) (v : Value) (pre : List Pick) (W : World) (d : Nat), l.length + m = size → (∀ x ∈ l, x < n) → NRow W v l → pre.map Prod.snd ++ extL n m l <+: all → J pre W → ChB W lp Yb Sb Nb Eb size n →
    CallsIn Fence.wide d Tryz.prog 89 #[v, .pointer (some ⟨Sb, 0, none⟩), .pointer (some ⟨Yb, 0, none⟩), .pointer (some ⟨Nb, 0, none⟩), .pointer (some ⟨Eb, 0, none⟩)] W (PickPost W J Jx all pre (extL n m l)) := by
  intro m
  induction m with
  | zero =>
    intro l v pre W d hl hlt hv hpre hJ0 hB
    exact extend_zero lp Yb Sb Nb Eb n size J Jx all hH l v pre W d (by omega) hlt hv.row hpre hJ0 hB
  | succ m ih =>
    intro l v pre W d hl hlt hv hpre hJ0 hB
    obtain ⟨i0, hi0, hz0, hz1, hz2⟩ := info_parts info_int
    obtain ⟨a, cap, rfl, hc⟩ := hv.row.form
    have hnx := nextN_le hlt
    have hll : l.length ≤ 4 := by omega
    have HCL : Hid (∀ W', KC W W' → _) := Lib.hid (fun W' (h : KC W W') => clone_any (hv.kc h) (by omega))
    have HPR := Lib.hid hpre
    have HIH := Lib.hid ih
    have HJJ := Lib.hid hJ
    have HBB := Lib.hid hB
    have HJ0 := Lib.hid hJ0
    have HLT := Lib.hid hlt
    have HSZ := Lib.hid hl
    have HC := Lib.hid hc
    have HNX : Hid (l ≠ [] → nextN l = l.getD (l.length - 1) 0 + 1) := Lib.hid nextN_last
    have HN0 : Hid (l = [] → nextN l = 0) := Lib.hid (fun h => by rw [h]; rfl)
    obtain ⟨nx, enx⟩ : ∃ nx, nextN l = nx := ⟨_, rfl⟩
    rw [enx] at hnx HNX HN0
    have HEN := Lib.hid enx
    have hcs := hB.s
    have hcn := hB.n
    have hz : ((l.length : Int) == size) = false := by simp; omega
    clear ih hJ hB hJ0 hpre hv hlt hc enx hl hH
    refine callsIn_of_wp Tryz.func89 rfl trivial ?_ rfl
    simp only [Tryz.ntmps89, List.size_toArray, List.length_cons, List.length_nil, Nat.reduceAdd, Nat.reduceSub, Array.replicate_succ, Array.replicate_zero, List.push_toArray, List.append_toArray, List.nil_append, List.cons_append]
    refine wpIn_wide.2 ?_
    by_cases hl0 : l.length = 0
    · have hle : l = [] := List.eq_nil_of_length_eq_zero hl0
      have HNV : Hid ((0 : Int) = ((nx + 0 : Nat) : Int)) := Lib.hid (by rw [HN0.out hle]; rfl)
      have hq : ¬ (0 : Int) < l.length := by omega
      clear hl0 hle
      go_wp2_with fail
      go_loopw [8] (fun i wr => ∃ (t : Nat) (xs : List Pick), t ≤ n - nx ∧ i = .int .i64 ((nx + t : Nat) : Int) ∧ Hid (xs.map Prod.snd = stepsE n m l t) ∧ Hid (J (pre ++ xs) wr) ∧ Hid (KC W wr)) (fun i _ => n + 1 - (intOf i).toNat)
      case atStart => exact ⟨0, [], Nat.zero_le _, by rw [HNV.out], Lib.hid rfl, Lib.hid (by rw [List.append_nil]; exact HJ0.out), Lib.hid (KC.refl _)⟩
      case round =>
        obtain ⟨t, xs, ht, rfl, hxs, hJx, hK⟩ := hrel
        clear hcs hcn
        have hcn := (HBB.out.kc hK.out).n
        have hce := (HBB.out.kc hK.out).e
        by_cases htl : t < n - nx
        · obtain ⟨x, hx⟩ : ∃ x, nx + t = x := ⟨_, rfl⟩
          rw [hx]
          have hxn : (x : Int) < n := by omega
          have hxb : x ≤ 4 := by omega
          have HCALL : Hid (∀ v' W', Below wr.heap.size wr W' → W'.ownsRow wr.heap.size 3 1 v' (l.length + 1) (l.map encI ++ [.int .i64 x]) → Calls Tryz.prog 89 #[v', .pointer (some ⟨Sb, 0, none⟩), .pointer (some ⟨Yb, 0, none⟩), .pointer (some ⟨Nb, 0, none⟩), .pointer (some ⟨Eb, 0, none⟩)] W' fun e w' =>
              ∃ bb : Bool, e = .returned (.bool bb) ∧ (bb = true → ∃ ys : List Pick, ys.map Prod.snd = extL n m (l ++ [x]) ∧ J ((pre ++ xs) ++ ys) w' ∧ KC wr w') ∧ (bb = false → ∃ pre' : List Pick, pre'.map Prod.snd <+: all ∧ Jx pre' w')) := Lib.hid (by
            intro v' W' hb' hr'
            have hrow : W'.ownsRow wr.heap.size 3 1 v' (l ++ [x]).length ((l ++ [x]).map encI) := by rw [List.length_append, List.map_append]; exact hr'
            refine (callsIn_wide.1 (HIH.out (l ++ [x]) v' (pre ++ xs) W' d (by have := HSZ.out; simp; omega) (fun y hy => ?_) (.inr ⟨by simp, IRow.of_own hrow⟩) ?_ (HJJ.out _ _ _ hJx.out (ItG.of_below hb')) (HBB.out.kc (hK.out.trans (KC.of_below hb'))))).mono ?_
            · rcases List.mem_append.1 hy with h | h
              · exact HLT.out y h
              · rw [List.mem_singleton.1 h]; omega
            · have := ext_pre (n := n) (m := m) (l := l) (t := t) HPR.out (by rw [HEN.out]; exact htl) hxs.out
              rw [HEN.out, hx] at this; exact this
            · rintro e w' ⟨bb, he, h1, h2⟩
              exact ⟨bb, he, fun h => by obtain ⟨ys, g1, g2, g3⟩ := h1 h; exact ⟨ys, g1, g2, (KC.of_below hb').trans g3⟩, h2⟩)
          have HBD : Below wr.heap.size wr wr.drew := (Below.refl _ _).drew
          have HCL2 : Hid (∀ W', Below wr.heap.size wr W' → Calls Tryz.prog 90 #[.slice a l.length cap] W' fun e w' => ∃ v', e = .returned v' ∧ w'.ownsRow wr.heap.size 3 1 v' l.length (l.map encI) ∧ Below W'.heap.size W' w' ∧ Below wr.heap.size wr w') := Lib.hid fun W' h => by
            refine (HCL.out W' (hK.out.trans (KC.of_below h))).mono ?_
            rintro e w' ⟨v', he, hr, hb⟩
            exact ⟨v', he, hr.mono_base h.size, hb, h.trans (hb.mono h.size)⟩
          have HCE : Hid (∀ W', Below wr.heap.size wr W' → W'.cell? ⟨Eb, 0, none⟩ = some (.func (.func 89) #[] #[.pointer (some ⟨Sb, 0, none⟩), .pointer (some ⟨Yb, 0, none⟩), .pointer (some ⟨Nb, 0, none⟩), .pointer (some ⟨Eb, 0, none⟩)])) := Lib.hid fun W' h => (KC.of_below h).cell hce
          have hcea := fun o => HCE.out (wr.alloc o) ((Below.refl _ _).alloc (Nat.le_refl _) o)
          go_wp2_with fail
          go_region_law (first
            | (go_simp; go_at_call 90; refine (HCL2.out _ (by first | exact HBD | exact HBD.alloc (by simp) _)).mono ?_; rintro e w2 ⟨v2, rfl, HO2, HB2, HBW⟩; have hce2 := HCE.out w2 HBW; have hce2a := fun o => HCE.out (w2.alloc o) (HBW.alloc HBW.size o))
            | (refine step_append_own rfl (.tmp 34) (.tmp 36) 48 rfl 3 i0 (.int .i64 0) 1 8 Tryz.underlying48 hi0 hz0 hz1 hz2 rfl (by decide) wr.heap.size v2 l.length (l.map encI) (by simp [Act.eval, Act.put]) (by first | exact HO2 | exact HO2.alloc _) _ 1 1 [.int .i64 x] (by simp [Act.eval, Act.put]; rfl) rfl (by first | exact cell_one_new _ _ _ | exact fun j u h => (HB2.cell (p := (⟨wr.drew.heap.size, 0, none⟩ : Addr).add j) (by rw [Addr.add_lit]; simp)).trans (cell_one_new wr.drew _ _ j u h)) (by simp [Value.oneCell']) (by unfold maxLen; omega) (by omega) (by first | exact HBW.size | (have := HBW.size; simp; omega)) ?_; intro v3 w3 HO3 HG3; have HBW3 : Below wr.heap.size wr w3 := (by first | exact HBW.grown HG3 HBW.size (fun k e => (HO2.lt k e).1) | exact (HBW.alloc HBW.size _).grown HG3 (by have := HBW.size; simp; omega) (fun k e => (HO2.lt k e).1)); have hce3 := HCE.out w3 HBW3)
            | (go_simp; go_at_call 89; refine (HCALL.out _ _ HBW3 HO3).mono ?_; rintro e w9 ⟨bb, rfl, HT9, HF9⟩))
          all_goals
            have HT := Lib.hid HT9
            have HF := Lib.hid HF9
            clear HT9 HF9 hce2 hce2a hce3 hcea HB2 HBW HBW3 HO2 HO3 HG3 HCL2 HCE HCALL HBD
            cases bb with
            | false =>
              obtain ⟨pre', hp, hx'⟩ := HF.out rfl
              have HP := Lib.hid hp
              have HX := Lib.hid hx'
              clear hp hx' HT HF
              go_wp2_with fail
              go_ret
              exact ⟨false, rfl, (fun h => by cases h), fun _ => ⟨pre', HP.out, HX.out⟩⟩
            | true =>
              obtain ⟨ys, hy, hj, hk⟩ := HT.out rfl
              have HY : Hid ((xs ++ ys).map Prod.snd = stepsE n m l (t + 1)) := Lib.hid (by rw [List.map_append, hxs.out, hy, stepsE_succ, HEN.out, hx])
              have HJ : Hid (J (pre ++ (xs ++ ys)) w9) := Lib.hid (by rw [← List.append_assoc]; exact hj)
              have HK := Lib.hid (hK.out.trans hk)
              clear hy hj hk HT HF
              go_wp2_with fail
              go_roundw
              case rel => exact ⟨t + 1, xs ++ ys, by omega, by congr 1; omega, HY, HJ, HK⟩
              case measure => simp [intOf]; omega
        · obtain rfl : t = n - nx := by omega
          have hend : nx + (n - nx) = n := by omega
          rw [hend]
          have HXS : Hid (xs.map Prod.snd = extL n (m + 1) l) := Lib.hid (by rw [extL_succ, HEN.out]; exact hxs.out)
          go_wp2_with fail
          go_ret
          exact ⟨true, rfl, fun _ => ⟨xs, HXS.out, hJx.out, hK.out⟩, fun h => by cases h⟩
    · have hne : l ≠ [] := fun h => hl0 (by rw [h]; rfl)
      have hq : (0 : Int) < l.length := by omega
      have hqn : 0 < l.length := by omega
      have hqd : decide (0 < l.length) = true := decide_eq_true hqn
      obtain ⟨b, rfl, hb, c0⟩ := HC.out (l.length - 1) (by omega)
      have hnv := HNX.out hne
      obtain ⟨last, hlast⟩ : ∃ last, l.getD (l.length - 1) 0 = last := ⟨_, rfl⟩
      rw [hlast] at c0 hnv
      have HNV : Hid ((last : Int) + 1 = ((nx + 0 : Nat) : Int)) := Lib.hid (by rw [hnv]; simp)
      have hlb : last ≤ 4 := by omega
      obtain ⟨lm, hlm⟩ : ∃ lm, l.length - 1 = lm := ⟨_, rfl⟩
      rw [hlm] at c0
      have hi1 : (l.length : Int) - 1 = (lm : Int) := by omega
      have hi2 : (lm : Int) < l.length := by omega
      have hi3 : (0 : Int) ≤ (lm : Int) := by omega
      clear hlm
      clear hl0 hne hlast hnv
      go_wp2_with fail
      go_loopw [8] (fun i wr => ∃ (t : Nat) (xs : List Pick), t ≤ n - nx ∧ i = .int .i64 ((nx + t : Nat) : Int) ∧ Hid (xs.map Prod.snd = stepsE n m l t) ∧ Hid (J (pre ++ xs) wr) ∧ Hid (KC W wr)) (fun i _ => n + 1 - (intOf i).toNat)
      case atStart => exact ⟨0, [], Nat.zero_le _, by rw [HNV.out], Lib.hid rfl, Lib.hid (by rw [List.append_nil]; exact HJ0.out), Lib.hid (KC.refl _)⟩
      case round =>
        obtain ⟨t, xs, ht, rfl, hxs, hJx, hK⟩ := hrel
        clear hcs hcn
        have hcn := (HBB.out.kc hK.out).n
        have hce := (HBB.out.kc hK.out).e
        by_cases htl : t < n - nx
        · obtain ⟨x, hx⟩ : ∃ x, nx + t = x := ⟨_, rfl⟩
          rw [hx]
          have hxn : (x : Int) < n := by omega
          have hxb : x ≤ 4 := by omega
          have HCALL : Hid (∀ v' W', Below wr.heap.size wr W' → W'.ownsRow wr.heap.size 3 1 v' (l.length + 1) (l.map encI ++ [.int .i64 x]) → Calls Tryz.prog 89 #[v', .pointer (some ⟨Sb, 0, none⟩), .pointer (some ⟨Yb, 0, none⟩), .pointer (some ⟨Nb, 0, none⟩), .pointer (some ⟨Eb, 0, none⟩)] W' fun e w' =>
              ∃ bb : Bool, e = .returned (.bool bb) ∧ (bb = true → ∃ ys : List Pick, ys.map Prod.snd = extL n m (l ++ [x]) ∧ J ((pre ++ xs) ++ ys) w' ∧ KC wr w') ∧ (bb = false → ∃ pre' : List Pick, pre'.map Prod.snd <+: all ∧ Jx pre' w')) := Lib.hid (by
            intro v' W' hb' hr'
            have hrow : W'.ownsRow wr.heap.size 3 1 v' (l ++ [x]).length ((l ++ [x]).map encI) := by rw [List.length_append, List.map_append]; exact hr'
            refine (callsIn_wide.1 (HIH.out (l ++ [x]) v' (pre ++ xs) W' d (by have := HSZ.out; simp; omega) (fun y hy => ?_) (.inr ⟨by simp, IRow.of_own hrow⟩) ?_ (HJJ.out _ _ _ hJx.out (ItG.of_below hb')) (HBB.out.kc (hK.out.trans (KC.of_below hb'))))).mono ?_
            · rcases List.mem_append.1 hy with h | h
              · exact HLT.out y h
              · rw [List.mem_singleton.1 h]; omega
            · have := ext_pre (n := n) (m := m) (l := l) (t := t) HPR.out (by rw [HEN.out]; exact htl) hxs.out
              rw [HEN.out, hx] at this; exact this
            · rintro e w' ⟨bb, he, h1, h2⟩
              exact ⟨bb, he, fun h => by obtain ⟨ys, g1, g2, g3⟩ := h1 h; exact ⟨ys, g1, g2, (KC.of_below hb').trans g3⟩, h2⟩)
          have HBD : Below wr.heap.size wr wr.drew := (Below.refl _ _).drew
          have HCL2 : Hid (∀ W', Below wr.heap.size wr W' → Calls Tryz.prog 90 #[.slice (some ⟨b, 0, none⟩) l.length cap] W' fun e w' => ∃ v', e = .returned v' ∧ w'.ownsRow wr.heap.size 3 1 v' l.length (l.map encI) ∧ Below W'.heap.size W' w' ∧ Below wr.heap.size wr w') := Lib.hid fun W' h => by
            refine (HCL.out W' (hK.out.trans (KC.of_below h))).mono ?_
            rintro e w' ⟨v', he, hr, hb⟩
            exact ⟨v', he, hr.mono_base h.size, hb, h.trans (hb.mono h.size)⟩
          have HCE : Hid (∀ W', Below wr.heap.size wr W' → W'.cell? ⟨Eb, 0, none⟩ = some (.func (.func 89) #[] #[.pointer (some ⟨Sb, 0, none⟩), .pointer (some ⟨Yb, 0, none⟩), .pointer (some ⟨Nb, 0, none⟩), .pointer (some ⟨Eb, 0, none⟩)])) := Lib.hid fun W' h => (KC.of_below h).cell hce
          have hcea := fun o => HCE.out (wr.alloc o) ((Below.refl _ _).alloc (Nat.le_refl _) o)
          go_wp2_with fail
          go_region_law (first
            | (go_simp; go_at_call 90; refine (HCL2.out _ (by first | exact HBD | exact HBD.alloc (by simp) _)).mono ?_; rintro e w2 ⟨v2, rfl, HO2, HB2, HBW⟩; have hce2 := HCE.out w2 HBW; have hce2a := fun o => HCE.out (w2.alloc o) (HBW.alloc HBW.size o))
            | (refine step_append_own rfl (.tmp 34) (.tmp 36) 48 rfl 3 i0 (.int .i64 0) 1 8 Tryz.underlying48 hi0 hz0 hz1 hz2 rfl (by decide) wr.heap.size v2 l.length (l.map encI) (by simp [Act.eval, Act.put]) (by first | exact HO2 | exact HO2.alloc _) _ 1 1 [.int .i64 x] (by simp [Act.eval, Act.put]; rfl) rfl (by first | exact cell_one_new _ _ _ | exact fun j u h => (HB2.cell (p := (⟨wr.drew.heap.size, 0, none⟩ : Addr).add j) (by rw [Addr.add_lit]; simp)).trans (cell_one_new wr.drew _ _ j u h)) (by simp [Value.oneCell']) (by unfold maxLen; omega) (by omega) (by first | exact HBW.size | (have := HBW.size; simp; omega)) ?_; intro v3 w3 HO3 HG3; have HBW3 : Below wr.heap.size wr w3 := (by first | exact HBW.grown HG3 HBW.size (fun k e => (HO2.lt k e).1) | exact (HBW.alloc HBW.size _).grown HG3 (by have := HBW.size; simp; omega) (fun k e => (HO2.lt k e).1)); have hce3 := HCE.out w3 HBW3)
            | (go_simp; go_at_call 89; refine (HCALL.out _ _ HBW3 HO3).mono ?_; rintro e w9 ⟨bb, rfl, HT9, HF9⟩))
          all_goals
            have HT := Lib.hid HT9
            have HF := Lib.hid HF9
            clear HT9 HF9 hce2 hce2a hce3 hcea HB2 HBW HBW3 HO2 HO3 HG3 HCL2 HCE HCALL HBD
            cases bb with
            | false =>
              obtain ⟨pre', hp, hx'⟩ := HF.out rfl
              have HP := Lib.hid hp
              have HX := Lib.hid hx'
              clear hp hx' HT HF
              go_wp2_with fail
              go_ret
              exact ⟨false, rfl, (fun h => by cases h), fun _ => ⟨pre', HP.out, HX.out⟩⟩
            | true =>
              obtain ⟨ys, hy, hj, hk⟩ := HT.out rfl
              have HY : Hid ((xs ++ ys).map Prod.snd = stepsE n m l (t + 1)) := Lib.hid (by rw [List.map_append, hxs.out, hy, stepsE_succ, HEN.out, hx])
              have HJ : Hid (J (pre ++ (xs ++ ys)) w9) := Lib.hid (by rw [← List.append_assoc]; exact hj)
              have HK := Lib.hid (hK.out.trans hk)
              clear hy hj hk HT HF
              go_wp2_with fail
              go_roundw
              case rel => exact ⟨t + 1, xs ++ ys, by omega, by congr 1; omega, HY, HJ, HK⟩
              case measure => simp [intOf]; omega
        · obtain rfl : t = n - nx := by omega
          have hend : nx + (n - nx) = n := by omega
          rw [hend]
          have HXS : Hid (xs.map Prod.snd = extL n (m + 1) l) := Lib.hid (by rw [extL_succ, HEN.out]; exact hxs.out)
          go_wp2_with fail
          go_ret
          exact ⟨true, rfl, fun _ => ⟨xs, HXS.out, hJx.out, hK.out⟩, fun h => by cases h⟩
end Go.Proofs.YtjhkgfbkpgnodaaGreatDoor

/-! choices of package beam as an iterator. -/
namespace Go.Proofs.YtjhkgfbkpgnodaaGreatDoor
open Go.RowKit Go.Shelf
attribute [local go_sem] Oper.semAt_some

theorem choices_any (n s : Nat) (w : World) : Calls Tryz.prog 55 #[.int .i64 n, .int .i64 s] w fun e w' =>
    e = .returned (.func (.func 88) #[] #[.pointer (some ⟨w.heap.size + 1, 0, none⟩), .pointer (some ⟨w.heap.size, 0, none⟩)]) ∧ w' = (w.alloc (.cells #[.int .i64 n] 3)).alloc (.cells #[.int .i64 s] 3) := by
  go_enter Tryz.func55, Tryz.ntmps55
  go_wp2_with fail
  go_ret
  exact ⟨rfl, rfl⟩

set_option maxHeartbeats 1000000 in
theorem choices1_seq (d : Nat) (Sb Nb n size : Nat) (hn : n ≤ 4) (hs : size ≤ 4) :
    SeqV Tryz.prog d 88 #[.pointer (some ⟨Sb, 0, none⟩), .pointer (some ⟨Nb, 0, none⟩)] (fun x : Pick => #[x.1]) (fun x W => IRow W x.1 x.2 ∧ (∀ y ∈ x.2, y < n) ∧ x.2.length = size) ItG KC (fun xs => xs.map Prod.snd = extL n size []) (fun pre => pre.map Prod.snd <+: extL n size []) (extL n size []).length
      (fun W => W.cell? ⟨Sb, 0, none⟩ = some (.int .i64 size) ∧ W.cell? ⟨Nb, 0, none⟩ = some (.int .i64 n)) := by
  rintro l J Jx W ⟨hs0, hn0⟩ hJ hJx hY h0
  have hwalk := extend_any l W.heap.size Sb Nb (W.heap.size + 1) n size hn hs J Jx (extL n size []) hJ (fun m pre x W1 hj hr hlt => YieldAt.wideAny (hY pre x W1 hj hr hlt)) size [] (.slice none 0 0) []
  have HW := Lib.hid hwalk; have HJ := Lib.hid hJ
  clear hwalk hJ hJx hY
  refine callsIn_of_wp Tryz.func88 rfl trivial ?_ rfl
  simp only [Tryz.ntmps88, List.size_toArray, List.length_cons, List.length_nil, Nat.reduceAdd, Nat.reduceSub, Array.replicate_succ, Array.replicate_zero, List.push_toArray, List.append_toArray, List.nil_append, List.cons_append]
  gi_wp2
  refine ⟨trivial, (fun h => by cases h), ?_⟩
  obtain ⟨W1, hW1⟩ : ∃ W1, ((W.alloc (.cells #[.func (.yield l) #[] #[]] 149)).alloc (.cells #[.func (.func 89) #[] #[.pointer (some ⟨Sb, 0, none⟩), .pointer (some ⟨W.heap.size, 0, none⟩), .pointer (some ⟨Nb, 0, none⟩), .pointer (some ⟨W.heap.size + 1, 0, none⟩)]] 149)) = W1 := ⟨_, rfl⟩
  rw [hW1]
  have c1 : W1.cell? ⟨W.heap.size, 0, none⟩ = some (.func (.yield l) #[] #[]) := by subst hW1; go_simp
  have c2 : W1.cell? ⟨W.heap.size + 1, 0, none⟩ = some (.func (.func 89) #[] #[.pointer (some ⟨Sb, 0, none⟩), .pointer (some ⟨W.heap.size, 0, none⟩), .pointer (some ⟨Nb, 0, none⟩), .pointer (some ⟨W.heap.size + 1, 0, none⟩)]) := by subst hW1; go_simp
  have hb : Below W.heap.size W W1 := by rw [← hW1]; exact ((Below.refl _ W).alloc (Nat.le_refl _) _).alloc (by simp) _
  have hk := KC.of_below hb
  refine (HW.out W1 (d - 1) (by simp) (by simp) (.inl ⟨rfl, rfl⟩) (List.prefix_refl _) (HJ.out _ _ _ h0 (ItG.of_below hb)) ⟨c1, hk.cell hs0, hk.cell hn0, c2⟩).mono ?_
  rintro e W6 ⟨bb, rfl, h1, h2⟩
  have H1 := Lib.hid h1; have H2 := Lib.hid h2
  clear h1 h2 c1 c2 hb hk hs0 hn0 h0 hW1
  gi_wp2
  go_end0
  refine ⟨⟨_, rfl⟩, ?_⟩
  cases bb with
  | true =>
    obtain ⟨xs, g1, g2, _⟩ := H1.out rfl
    exact .inl ⟨xs, g1, by simpa using g2⟩
  | false => exact .inr (H2.out rfl)

/-- A function whose loops over functions have left marks. -/
theorem leaves_marks {F : Fence} {n : Nat} {P : Program} {fn : Func} {tmps : Array Value} {R : Ending → World → Prop} (b0 : Nat) : ∀ (marks : List Nat) (W : World), marks.Nodup → (∀ D ∈ marks, b0 ≤ D ∧ W.heap[D]? = some (.deferred (some []))) →
    (∀ W', KC W W' → Below b0 W W' → LeavesIn F n P fn tmps R [] .returning W') → LeavesInM F n P fn tmps R (marks.map fun D => { target := .collected D, args := #[] }) .returning W
  | [], W, _, _, h => h W (KC.refl _) (Below.refl _ _)
  | D :: marks, W, hnd, hm, h => by
    obtain ⟨h1, h2⟩ := hm D (by simp)
    refine ⟨by simp, .inl ⟨D, W.putObj D (.deferred none), rfl, run_takeDeferred h2, ?_⟩⟩
    refine leaves_marks b0 marks _ (List.nodup_cons.1 hnd).2 (fun D' hD' => ?_) (fun W' hk hb => h W' ?_ ?_)
    · have hne : D' ≠ D := fun e => (List.nodup_cons.1 hnd).1 (e ▸ hD')
      obtain ⟨g1, g2⟩ := hm D' (by simp [hD'])
      exact ⟨g1, (World.putObj_heap_other hne).trans g2⟩
    · refine KC.trans ⟨by simp, fun b C t fr hb' => ?_⟩ hk
      refine (World.putObj_heap_other ?_).trans hb'
      rintro rfl
      rw [h2] at hb'; cases hb'
    · exact ((Below.refl b0 W).grown (grownBy_putObj' W D _) (by have := (Array.getElem?_eq_some_iff.1 h2).1; omega) (fun k e => by cases e; exact h1)).trans hb
end Go.Proofs.YtjhkgfbkpgnodaaGreatDoor
