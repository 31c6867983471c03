/- The iterator of sets of package ridge. -/
import Derived.Test.YtnacgogcbbpjmaaHP0
import Derived.Test.YtnacgogcbbpjmaaHA8
set_option linter.unusedVariables false
set_option linter.unusedSimpArgs false
namespace Go.Proofs.Ytnacgogcbbpjmaa
open Go Go.RowKit

/-- The sets that have more towers than s, as many as left, all of them from an index on. -/
def exL (N : Nat) : Nat → Nat → Nat → List Nat
  | 0, _, s => [s]
  | left + 1, next, s => (List.range (N - next)).flatMap fun d => exL N left (next + d + 1) (s + 2 ^ (next + d))
def exS (N left next s m : Nat) : List Nat := (List.range m).flatMap fun d => exL N left (next + d + 1) (s + 2 ^ (next + d))
theorem exS_succ (N left next s m : Nat) : exS N left next s (m + 1) = exS N left next s m ++ exL N left (next + m + 1) (s + 2 ^ (next + m)) := by simp [exS, List.range_succ]
theorem exL_succ (N left next s : Nat) : exL N (left + 1) next s = exS N left next s (N - next) := by unfold exS; rw [exL]
theorem exS_mono (N left next s : Nat) {m n : Nat} (h : m ≤ n) : exS N left next s m <+: exS N left next s n := by
  induction n with
  | zero =>
    obtain rfl : m = 0 := by omega
    exact List.prefix_refl _
  | succ n ih =>
    by_cases e : m = n + 1
    · subst e; exact List.prefix_refl _
    · exact (ih (by omega)).trans (by rw [exS_succ]; exact List.prefix_append _ _)
/-- All sets of N towers, those of fewer towers first. -/
def ssK (N k : Nat) : List Nat := (List.range k).flatMap fun size => exL N size 0 0
def ssL (N : Nat) : List Nat := ssK N (N + 1)
theorem ssK_succ (N k : Nat) : ssK N (k + 1) = ssK N k ++ exL N k 0 0 := by simp [ssK, List.range_succ]
theorem ssK_mono (N : Nat) {m n : Nat} (h : m ≤ n) : ssK N m <+: ssK N n := by
  induction n with
  | zero =>
    obtain rfl : m = 0 := by omega
    exact List.prefix_refl _
  | succ n ih =>
    by_cases e : m = n + 1
    · subst e; exact List.prefix_refl _
    · exact (ih (by omega)).trans (by rw [ssK_succ]; exact List.prefix_append _ _)
/-- All cells stay. -/
def KpA (A B : World) : Prop := KpP (fun _ _ => True) A B
theorem KpA.refl (A : World) : KpA A A := KpP.refl _ A
theorem KpA.trans {A B C : World} (h : KpA A B) (k : KpA B C) : KpA A C := KpP.trans h k
theorem KpA.of_below {A B : World} (h : Below A.heap.size A B) : KpA A B := KpP.of_below h
theorem KpA.at {A B : World} (h : KpA A B) {k : Nat} {C : Array Value} {t : TypeId} {fr : Nat × Nat} (hk : A.heap[k]? = some (.cells C t fr)) : B.heap[k]? = some (.cells C t fr) := (h.cells k C t fr hk trivial).trans hk
/-- The boxes of the iterator: what is yielded to, how many towers there are, the function that calls itself. -/
structure SxB (N l YB NB EB : Nat) (W : World) : Prop where
  y : W.heap[YB]? = some (.cells #[.func (.yield l) #[] #[]] 124 (0, 0))
  n : W.heap[NB]? = some (.cells #[.int .i64 N] 3 (0, 0))
  e : W.heap[EB]? = some (.cells #[.func (.func 65) #[] #[.pointer (some ⟨YB, 0, none⟩), .pointer (some ⟨NB, 0, none⟩), .pointer (some ⟨EB, 0, none⟩)]] 125 (0, 0))
theorem SxB.keep {N l YB NB EB : Nat} {A B : World} (h : SxB N l YB NB EB A) (k : KpA A B) : SxB N l YB NB EB B := ⟨k.at h.y, k.at h.n, k.at h.e⟩
theorem SxB.reads {N l YB NB EB : Nat} {W : World} (h : SxB N l YB NB EB W) : W.cell? ⟨YB, 0, none⟩ = some (.func (.yield l) #[] #[]) ∧ W.cell? ⟨NB, 0, none⟩ = some (.int .i64 N) ∧ W.cell? ⟨EB, 0, none⟩ = some (.func (.func 65) #[] #[.pointer (some ⟨YB, 0, none⟩), .pointer (some ⟨NB, 0, none⟩), .pointer (some ⟨EB, 0, none⟩)]) :=
  ⟨cellH h.y 0, cellH h.n 0, cellH h.e 0⟩
set_option maxRecDepth 100000 in
set_option maxHeartbeats 4000000 in
theorem extend_any (N : Nat) (hN : N ≤ 12) (l YB NB EB : Nat) (J Jx : List Nat → World → Prop) (total : List Nat)
    (hJ : ∀ p A B, J p A → Below A.heap.size A B → J p B)
    (hH : ∀ m pre x W1, J pre W1 → pre ++ [x] <+: total → YieldAt Fence.wide m Try.prog l #[.int .u64 (x : Nat)] W1 fun e W' =>
      (e = .returned (.bool true) ∧ J (pre ++ [x]) W' ∧ KpA W1 W') ∨ (e = .returned (.bool false) ∧ Jx (pre ++ [x]) W')) :
    ∀ (left next s : Nat) (pre : List Nat) (W : World) (n : Nat), left ≤ 12 → next ≤ N → s < 2 ^ next → pre ++ exL N left next s <+: total → J pre W → SxB N l YB NB EB W →
      CallsIn Fence.wide n Try.prog 65 #[.int .u64 (s : Nat), .int .i64 (next : Nat), .int .i64 (left : Nat), .pointer (some ⟨YB, 0, none⟩), .pointer (some ⟨NB, 0, none⟩), .pointer (some ⟨EB, 0, none⟩)] W fun e W' =>
        (e = .returned (.bool true) ∧ J (pre ++ exL N left next s) W' ∧ KpA W W') ∨ (e = .returned (.bool false) ∧ ∃ pre', pre' <+: total ∧ Jx pre' W') := by
  intro left
  induction left with
  | zero =>
    intro next s pre W n _ hnx hs hpre hJ0 hB
    rw [exL] at hpre ⊢
    obtain ⟨fn, tmps, assign, body, hy, hR⟩ := hH (n - 1) pre s W hJ0 hpre
    obtain ⟨hcy, _, _⟩ := hB.reads
    have HPR := Lib.hid hpre
    clear hH hJ hB hpre hJ0 hs
    refine callsIn_of_wp Try.func65 rfl trivial ?_ rfl
    simp only [Try.ntmps65, List.size_toArray, List.length_cons, List.length_nil, Nat.reduceAdd, Nat.reduceSub, Array.replicate_succ, Array.replicate_zero, List.push_toArray, List.append_toArray, List.nil_append, List.cons_append]
    gi_wp2
    refine ⟨(fun h => by cases h), ?_⟩
    refine hR.mono ?_
    rintro e W3 (⟨rfl, hJ3, hk3⟩ | ⟨rfl, hJx3⟩)
    · gi_wp2
      exact bodyPost_ret (results_tmp rfl _ _ _) rfl (.inl ⟨rfl, hJ3, hk3⟩)
    · gi_wp2
      exact bodyPost_ret (results_tmp rfl _ _ _) rfl (.inr ⟨rfl, _, HPR.out, hJx3⟩)
  | succ left ih =>
    intro next s pre W n hl hnx hs hpre hJ0 hB
    rw [exL_succ] at hpre ⊢
    obtain ⟨lf, hlf⟩ : ∃ x : Int, ((left + 1 : Nat) : Int) = x := ⟨_, rfl⟩
    rw [hlf]
    have hz1 : (lf == 0) = false := by simp; omega
    have HLF : Hid (lf - 1 = (left : Int)) := Lib.hid (by omega)
    have HLB : Hid (IntKind.i64.wrap (lf - 1) = lf - 1) := Lib.hid (IntWalk.i64_in _ (by omega))
    clear hlf
    have HIH := Lib.hid (fun next s pre W hnx hs hpre hJ0 hB => callsIn_wide.1 (ih next s pre W n (by omega) hnx hs hpre hJ0 hB))
    have HJ := Lib.hid hJ; have HBB := Lib.hid hB; have HPR := Lib.hid hpre; have HS := Lib.hid hs
    have HJ0 := Lib.hid hJ0
    have HL : Hid (left ≤ 12) := Lib.hid (by omega)
    clear hH hJ hB hpre ih hJ0 hs
    refine callsIn_of_wp Try.func65 rfl trivial ?_ rfl
    simp only [Try.ntmps65, List.size_toArray, List.length_cons, List.length_nil, Nat.reduceAdd, Nat.reduceSub, Array.replicate_succ, Array.replicate_zero, List.push_toArray, List.append_toArray, List.nil_append, List.cons_append]
    gi_wp2
    clear hz1
    refine wpIn_wide.2 ?_
    go_loopw [10] (fun i wr => ∃ m : Nat, m ≤ N - next ∧ i = .int .i64 ((next + m : Nat) : Int) ∧ Hid (J (pre ++ exS N left next s m) wr) ∧ Hid (KpA W wr)) (fun i _ => N + 1 - (intOf i).toNat)
    case atStart => exact ⟨0, Nat.zero_le _, rfl, Lib.hid (by simpa [exS] using HJ0.out), Lib.hid (KpA.refl W)⟩
    case round =>
      obtain ⟨m, hm, rfl, hJm, hKm⟩ := hrel
      obtain ⟨hcy, hcn, hce⟩ := (HBB.out.keep hKm.out).reads
      by_cases hlt : m < N - next
      · obtain ⟨k, hk⟩ : ∃ k, next + m = k := ⟨_, rfl⟩
        have HPN : Hid (pre ++ exS N left next s (m + 1) = (pre ++ exS N left next s m) ++ exL N left (k + 1) (s + 2 ^ k)) := Lib.hid (by rw [exS_succ, hk, List.append_assoc])
        have HPT : Hid ((pre ++ exS N left next s m) ++ exL N left (k + 1) (s + 2 ^ k) <+: total) := Lib.hid (by
          rw [← HPN.out]
          exact List.IsPrefix.trans ((List.prefix_append_right_inj _).2 (exS_mono N left next s (by omega))) HPR.out)
        have hsk : s < 2 ^ k := Nat.lt_of_lt_of_le HS.out (Nat.pow_le_pow_right (by decide) (by omega))
        have hk1 : 2 ^ (k + 1) = 2 ^ k + 2 ^ k := by rw [Nat.pow_succ]; omega
        have HSK : Hid (s + 2 ^ k < 2 ^ (k + 1)) := Lib.hid (by omega)
        have hor := or_add (k := k) (a := s) (by omega) hsk
        have HON := Lib.hid (fun w' => only_any k (by omega) w')
        have hkN : (k : Int) < N := by omega
        have hk0 : (0 : Int) ≤ k := by omega
        have HK1 : Hid (k + 1 ≤ N) := Lib.hid (by omega)
        have hmk : next + (m + 1) = k + 1 := by omega
        have HMK := Lib.hid hmk
        have HM1 : Hid (m + 1 ≤ N - next) := Lib.hid (by omega)
        rw [hk]
        obtain ⟨p0, hp0⟩ : ∃ p0, pre ++ exS N left next s m = p0 := ⟨_, rfl⟩
        rw [hp0] at hJm HPN HPT
        have HC : Hid (∀ (W' : World) (q f t : Int), q = ((s + 2 ^ k : Nat) : Int) → f = (k : Int) + 1 → t = (left : Int) → Below wr.heap.size wr W' → Calls Try.prog 65 #[.int .u64 q, .int .i64 f, .int .i64 t, .pointer (some ⟨YB, 0, none⟩), .pointer (some ⟨NB, 0, none⟩), .pointer (some ⟨EB, 0, none⟩)] W' fun e W'' =>
            (e = .returned (.bool true) ∧ J (p0 ++ exL N left (k + 1) (s + 2 ^ k)) W'' ∧ KpA W W'') ∨ (e = .returned (.bool false) ∧ ∃ pre', pre' <+: total ∧ Jx pre' W'')) := Lib.hid (by
          rintro W' q f t rfl rfl rfl hb
          have hkw := hKm.out.trans (KpA.of_below hb)
          have h := HIH.out (k + 1) (s + 2 ^ k) p0 W' HK1.out HSK.out HPT.out (HJ.out _ _ _ hJm.out hb) (HBB.out.keep hkw)
          rw [Int.natCast_add] at h
          refine h.mono ?_
          rintro e W'' (⟨he, hj, hk⟩ | h)
          · exact .inl ⟨he, hj, hkw.trans hk⟩
          · exact .inr h)
        have wk1 : IntKind.i64.wrap ((k : Int) + 1) = (k : Int) + 1 := IntWalk.i64_in _ (by omega)
        have wk3 := HLB.out
        have KA : Hid (∀ W', Below wr.heap.size wr W' → W'.cell? ⟨EB, 0, none⟩ = some (.func (.func 65) #[] #[.pointer (some ⟨YB, 0, none⟩), .pointer (some ⟨NB, 0, none⟩), .pointer (some ⟨EB, 0, none⟩)])) := Lib.hid (fun W' h => ((HBB.out.keep (hKm.out.trans (KpA.of_below h))).reads).2.2)
        have CO : Hid (∀ w', Below wr.heap.size wr w' → Calls Try.prog 66 #[.int .i64 k] w' fun e w'' => e = .returned (.int .u64 ((2 : Int) ^ k)) ∧ Below wr.heap.size wr w'') := Lib.hid (fun w' h => (HON.out w').mono fun e w'' ⟨he, hh⟩ => ⟨he, by rw [hh]; exact h⟩)
        clear hk hp0 hm hlt hsk hk1 hcy hmk HIH HJ HPR HPT
        go_wp2_with fail
        refine wp_region_turn 9 (fun _ w' => Below wr.heap.size wr w') (by kernel_rfl) (by kernel_rfl) ((Below.refl _ wr).drew) ?_
        simp only [List.take_succ_cons, List.take_zero, List.drop_succ_cons, List.drop_zero]
        iterate 9
          (first
            | (apply turnC_step (by rfl); (intro w' hw'; go_simp; exact CO.out w' hw'))
            | (apply turnC_step (by rfl); (intro w' hw'; have y0 := KA.out w' hw'; go_simp; first | exact ⟨hw', rfl⟩ | exact rfl)))
          simp only [Act.put, List.setIfInBounds_toArray, List.set_cons_succ, List.set_cons_zero]
        intro listed w7 _ hw7
        have HD7 := Lib.hid hw7
        clear hw7 KA CO hor hcn hce
        go_wp2_with fail
        refine (HC.out w7 _ _ _ (by simp) (by first | rfl | simp) HLF.out HD7.out).mono ?_
        rintro e W4 (⟨rfl, hJ4, hk4⟩ | ⟨rfl, pre', hp4, hx4⟩)
        · have HJ4 := Lib.hid hJ4; have HK4 := Lib.hid hk4
          clear hJ4 hk4 HC wk1 wk3
          go_wp2_with fail
          go_roundw
          case rel => exact ⟨m + 1, HM1.out, by rw [HMK.out]; first | rfl | go_num, Lib.hid (by rw [HPN.out]; exact HJ4.out), HK4⟩
          case measure => simp [intOf]; omega
        · go_wp2_with fail
          gi_wp2
          exact bodyPost_ret (results_tmp rfl _ _ _) rfl (.inr ⟨rfl, _, hp4, hx4⟩)
      · obtain rfl : m = N - next := by omega
        have hge : ¬ ((next + (N - next) : Nat) : Int) < N := by omega
        have hde : decide (((next + (N - next) : Nat) : Int) < N) = false := decide_eq_false hge
        obtain ⟨k, hk⟩ : ∃ k, next + (N - next) = k := ⟨_, rfl⟩
        rw [hk] at hge hde ⊢
        clear hlt hk hm
        go_wp2_with fail
        try gi_wp2
        exact bodyPost_ret (results_tmp rfl _ _ _) rfl (.inl ⟨rfl, hJm.out, hKm.out⟩)
theorem SxB.start {W : World} {N NB : Nat} (l : Nat) (h : W.heap[NB]? = some (.cells #[.int .i64 N] 3 (0, 0))) {W3 : World}
    (hW3 : W3 = (W.alloc (.cells #[.func (.yield l) #[] #[]] 124)).alloc (.cells #[.func (.func 65) #[] #[.pointer (some ⟨W.heap.size, 0, none⟩), .pointer (some ⟨NB, 0, none⟩), .pointer (some ⟨W.heap.size + 1, 0, none⟩)]] 125)) :
    SxB N l W.heap.size NB (W.heap.size + 1) W3 ∧ Below W.heap.size W W3 := by
  subst hW3
  have hlt := (Array.getElem?_eq_some_iff.1 h).1
  have hs : (W.alloc (.cells #[.func (.yield l) #[] #[]] 124)).heap.size = W.heap.size + 1 := by simp
  refine ⟨⟨?_, ?_, ?_⟩, ?_⟩
  · exact (gNe _ _ _ (by rw [hs]; omega)).trans (heap_alloc_new _ _)
  · exact (gNe _ _ _ (by rw [hs]; omega)).trans ((gNe _ _ _ (by omega)).trans h)
  · exact gAt _ _ _ hs.symm
  · exact ((Below.refl _ W).alloc (Nat.le_refl _) _).alloc (by rw [hs]; omega) _
set_option maxRecDepth 100000 in
set_option maxHeartbeats 4000000 in
theorem sets1_seq (n N NB : Nat) (hN : N ≤ 12) :
    SeqN Try.prog n 64 #[.pointer (some ⟨NB, 0, none⟩)] (fun m : Nat => #[.int .u64 (m : Nat)]) 125 KpA (ssL N) (fun W => W.heap[NB]? = some (.cells #[.int .i64 N] 3 (0, 0))) := by
  rintro y J Jx W hSt hyl hJ hJx hY h0
  have HJB := Lib.hid (fun p A B (h : J p A) (hb : Below A.heap.size A B) (hn : W.heap.size ≤ A.heap.size) => hJ p A B h (OwnTo.of_below hb hn))
  have HEX := Lib.hid (fun (YB NB EB : Nat) (W4 : World) (k : Nat) (hk : k ≤ N) (hB : SxB N y YB NB EB W4) (hn : W.heap.size ≤ W4.heap.size) (hj : J (ssK N k) W4) =>
    extend_any N hN y YB NB EB (fun p A => J p A ∧ W.heap.size ≤ A.heap.size) Jx (ssL N) (fun p A B h hb => ⟨hJ p A B h.1 (OwnTo.of_below hb h.2), Nat.le_trans h.2 hb.size⟩)
      (fun m pre x W1 h hpre => by
        obtain ⟨fn, tmps, assign, body, hy, hR⟩ := hY pre x W1 h.1 hpre
        refine ⟨fn, tmps, assign, body, hy, ?_⟩
        have hR2 : RoundIn Fence.wide m Try.prog y fn tmps assign body W1 _ := ⟨hR.1, fun c cs _ => hR.2 c cs (room_wide _)⟩
        refine hR2.mono ?_
        rintro e W' (⟨he, ⟨h1, h2⟩, h3⟩ | ⟨he, h1, h3⟩)
        · exact .inl ⟨he, ⟨h1, Nat.le_trans h.2 h2.size⟩, h2⟩
        · exact .inr ⟨he, h1⟩)
      k 0 0 (ssK N k) W4 0 (by omega) (Nat.zero_le _) (by simp) (by rw [← ssK_succ]; exact ssK_mono N (by omega)) ⟨hj, hn⟩ hB)
  obtain ⟨W3, hW3⟩ : ∃ X, (W.alloc (.cells #[.func (.yield y) #[] #[]] 124)).alloc (.cells #[.func (.func 65) #[] #[.pointer (some ⟨W.heap.size, 0, none⟩), .pointer (some ⟨NB, 0, none⟩), .pointer (some ⟨W.heap.size + 1, 0, none⟩)]] 125) = X := ⟨_, rfl⟩
  obtain ⟨hB3, hb3⟩ := SxB.start y hSt hW3.symm
  have HB3 := Lib.hid hB3
  have HD3 := Lib.hid hb3
  have HJ3 := Lib.hid (HJB.out _ _ _ h0 hb3 (Nat.le_refl _))
  have HW3 := Lib.hid hW3
  have HN12 := Lib.hid hN
  have hcn : W.cell? ⟨NB, 0, none⟩ = some (.int .i64 N) := cellH hSt 0
  have hlt := (Array.getElem?_eq_some_iff.1 hSt).1
  have hne : NB ≠ W.heap.size := by omega
  have hne2 : NB ≠ W.heap.size + 1 := by omega
  have hlt2 : NB < W.heap.size + 1 := by omega
  have wk : wrap64 ((N : Int) + 1) = (N : Int) + 1 := w64 (by omega)
  have wk2 : IntKind.i64.wrap ((N : Int) + 1) = (N : Int) + 1 := IntWalk.i64_in _ (by omega)
  clear hY hJ hJx h0 hW3 hB3 hb3 hSt
  refine callsIn_of_wp Try.func64 rfl trivial ?_ rfl
  simp only [Try.ntmps64, List.size_toArray, List.length_cons, List.length_nil, Nat.reduceAdd, Nat.reduceSub, Array.replicate_succ, Array.replicate_zero, List.push_toArray, List.append_toArray, List.nil_append, List.cons_append]
  refine wpIn_wide.2 ?_
  go_wp2_with fail
  rw [HW3.out]
  obtain ⟨w0, hw0⟩ : ∃ x, W.heap.size = x := ⟨_, rfl⟩
  have HS3 := Lib.hid HD3.out.size
  rw [hw0] at HEX HB3 HD3 HS3 hyl ⊢
  clear hcn hlt hne hne2 hlt2 wk wk2 HW3 hw0 HJB
  go_loopw [8] (fun i wr => ∃ k : Nat, k ≤ N + 1 ∧ i = .int .i64 k ∧ Hid (J (ssK N k) wr) ∧ Hid (SxB N y w0 NB (w0 + 1) wr) ∧ Hid (w0 ≤ wr.heap.size)) (fun i _ => N + 2 - (intOf i).toNat)
  case atStart => exact ⟨0, Nat.zero_le _, rfl, Lib.hid (by simpa [ssK] using HJ3.out), HB3, HS3⟩
  case round =>
    clear HB3 HD3 HJ3
    obtain ⟨k, hk, rfl, hJ, hB, hs⟩ := hrel
    by_cases hkl : k < N + 1
    · have hki : (k : Int) < (N : Int) + 1 := by omega
      have hk0 : (0 : Int) ≤ k := by omega
      obtain ⟨_, _, hce⟩ := hB.out.reads
      have HC := Lib.hid (fun (q f : Int) (hq : q = 0) (hf : f = 0) => by
        have h := callsIn_wide.1 (HEX.out w0 NB (w0 + 1) wr k (by omega) hB.out hs.out hJ.out)
        subst hq hf
        exact h)
      have HSS := Lib.hid (ssK_succ N k)
      have hN12 := HN12.out
      go_wp2_with fail
      refine (HC.out _ _ rfl rfl).mono ?_
      rintro e W4 (⟨rfl, ⟨hJ4, hs4⟩, hk4⟩ | ⟨rfl, pre', hp4, hx4⟩)
      · have HJ4 := Lib.hid hJ4; have HB4 := Lib.hid (hB.out.keep hk4); have HS4 := Lib.hid hs4
        clear hJ4 hk4 hs4 HC hce
        go_wp2_with fail
        go_roundw
        case rel => exact ⟨k + 1, by omega, by go_num, Lib.hid (by rw [HSS.out]; exact HJ4.out), HB4, HS4⟩
        case measure => simp [intOf]; omega
      · go_wp2_with fail
        try gi_wp2
        exact bodyPost_ret (results_none rfl _ _ _) rfl ⟨⟨_, rfl⟩, .inr ⟨_, hp4, hx4⟩⟩
    · obtain rfl : k = N + 1 := by omega
      have HE := Lib.hid hJ.out
      clear hJ hB hs
      go_wp2_with fail
      go_end0
      exact ⟨⟨_, rfl⟩, .inl HE.out⟩
end Go.Proofs.Ytnacgogcbbpjmaa
