/- Readings of package beam: the map that is ranged over. -/
import Derived.Test.YtjbdmlpadoiicaaGreatDoorE8
import Derived.Test.YtjbdmlpadoiicaaGreatDoorZ3
import Derived.Test.YtjbdmlpadoiicaaGreatDoorO2
import Derived.Test.YtjbdmlpadoiicaaGreatDoorK0
import Derived.Test.YtjbdmlpadoiicaaGreatDoorG0
set_option linter.unusedVariables false
set_option linter.unusedSimpArgs false
namespace Go.Proofs.YtjbdmlpadoiicaaGreatDoor
open Go.RowKit Go.Shelf

/-- A step of a range over a map from strings to numbers. -/
theorem wpList_next_num (w : World) {ops : Array Oper} {rest : List Oper} {o : Oper} {a : Act} {Q : Exit → Act → World → Prop}
    (hg : o.guard = none) (it : Operand) (hop : o.op = Op.next it false) (b r n : Nat) (D : DataW Unit) (left : Lit → Bool) (cnt : Nat)
    (hit : a.eval it = .pointer (some ⟨r, 0, none⟩)) (h : w.ranges Tryz.prog 9 (plainElem (H := Unit) Tryz.prog 3) b r n D left cnt)
    (hDone : cnt = 0 → (∀ kl, left kl = false) → wpList Tryz.prog ops Q rest (a.put o.dst (.tuple #[.bool false])) w)
    (hMore : ∀ (x : List UInt8) (c : Int) (w' : World) (cnt' : Nat), left (.string x) = true → (∀ zd, D.atKey (.string x) zd = .lit (.int .i64 c)) → w'.ranges Tryz.prog 9 (plainElem (H := Unit) Tryz.prog 3) b r n D (fun z => left z && !z.sameKey (.string x)) cnt' → cnt' < cnt →
      w.grownBy w' (some r) → w'.heap.size = w.heap.size → (Instr.entry (.pointer (some ⟨r, 0, none⟩))).run Tryz.prog w' = .ok (.tuple #[.string (B x), .int .i64 c]) w' → wpList Tryz.prog ops Q rest (a.put o.dst (.tuple #[.bool true, .string (B x), .int .i64 c])) w') :
    wpList Tryz.prog ops Q (o :: rest) a w :=
  wpList_next_ranges w hg it hop 9 lawStr (plainElem (H := Unit) Tryz.prog 3) (fun x : List UInt8 => Value.string (B x)) (fun c : Int => Value.int .i64 c)
    (fun key kl hk => by obtain ⟨x, rfl, _⟩ := WideMaps.string_of_keyOf Tryz.underlying9 hk; exact ⟨x.data.toList, by rw [B_L]⟩) (fun v y hv => by obtain ⟨c, rfl, _⟩ := plainElem_int_inv Tryz.underlying3 hv; exact ⟨c, rfl⟩) b r n D left cnt hit h hDone
    (fun x c kl y w' cnt' hk hlk hv hat hrg hlt hgr hsz hen => by
      obtain ⟨x', ex, rfl, _⟩ := WideMaps.string_of_keyOf Tryz.underlying9 hk
      cases ex
      rw [L_B] at hlk hrg hat
      obtain ⟨c', ec, rfl, _⟩ := plainElem_int_inv Tryz.underlying3 hv
      cases ec
      exact hMore x c w' cnt' hlk hat hrg hlt hgr hsz hen)

/-- What has come so far: each word once, with its number. -/
structure CameP (S : List (List UInt8 × Int)) (left : Lit → Bool) (zs : List (List UInt8 × Int)) : Prop where
  keys : (zs.map Prod.fst).Nodup
  mem : ∀ p, p ∈ zs ↔ p ∈ S ∧ left (.string p.1) = false
  rest : ∀ x, left (.string x) = true → x ∈ S.map Prod.fst
theorem CameP.start {D : DataW Unit} {S : List (List UInt8 × Int)} (h : NRep D S) : CameP S (Maps.has D) [] :=
  ⟨List.nodup_nil, fun p => ⟨fun h => by simp at h, fun ⟨h1, h2⟩ => by rw [(h.has p.1).2 (List.mem_map_of_mem h1)] at h2; cases h2⟩, fun x hx => (h.has x).1 hx⟩
theorem keys_one {S : List (List UInt8 × Int)} (hS : (S.map Prod.fst).Nodup) : ∀ {p q : List UInt8 × Int}, p ∈ S → q ∈ S → p.1 = q.1 → p = q := by
  induction S with
  | nil => intro p q h; cases h
  | cons s S ih =>
    intro p q hp hq e
    have hn := List.nodup_cons.1 hS
    rcases List.mem_cons.1 hp with h1 | h1
    · rcases List.mem_cons.1 hq with h2 | h2
      · rw [h1, h2]
      · exact absurd (by rw [← h1, e]; exact List.mem_map_of_mem h2) hn.1
    · rcases List.mem_cons.1 hq with h2 | h2
      · exact absurd (by rw [← h2, ← e]; exact List.mem_map_of_mem h1) hn.1
      · exact ih hn.2 h1 h2 e
theorem CameP.step {D : DataW Unit} {S : List (List UInt8 × Int)} {left : Lit → Bool} {zs : List (List UInt8 × Int)} {x : List UInt8} {c : Int} (h : CameP S left zs) (hD : NRep D S) (hS : (S.map Prod.fst).Nodup) (hx : left (.string x) = true) (hc : ∀ zd, D.atKey (.string x) zd = .lit (.int .i64 c)) :
    CameP S (fun z => left z && !z.sameKey (.string x)) (zs ++ [(x, c)]) := by
  have hm : (x, c) ∈ S := by
    obtain ⟨p, hp, e⟩ := List.mem_map.1 (h.rest x hx)
    have h1 := hD.at' p hp (.lit (.bool true))
    rw [e, hc] at h1
    have : c = p.2 := by simpa using h1
    rw [this, ← e]; exact hp
  have hn : x ∉ zs.map Prod.fst := fun hz => by
    obtain ⟨p, hp, e⟩ := List.mem_map.1 hz
    have := ((h.mem p).1 hp).2
    rw [e, hx] at this; cases this
  refine ⟨?_, fun p => ?_, fun y hy => ?_⟩
  · rw [List.map_append, List.nodup_append]
    exact ⟨h.keys, by simp, fun a ha b hb e => by
      rw [List.map_singleton, List.mem_singleton] at hb
      rw [hb] at e; rw [e] at ha; exact hn ha⟩
  · by_cases e : p.1 = x
    · have hs : (Lit.string p.1).sameKey (.string x) = true := by rw [e]; exact WideAt.sameKey_self (litKey x)
      simp only [hs, Bool.not_true, Bool.and_false, and_true, List.mem_append, List.mem_singleton]
      constructor
      · rintro (hp | rfl)
        · exact ((h.mem p).1 hp).1
        · exact hm
      · exact fun hp => .inr (keys_one hS hp hm e)
    · have hs : (Lit.string p.1).sameKey (.string x) = false := Maps.sameKey_ne (fun k => e (Lit.string.inj k))
      have hne : p ≠ (x, c) := fun k => e (by rw [k])
      simp only [hs, Bool.not_false, Bool.and_true, List.mem_append, List.mem_singleton, hne, or_false]
      exact h.mem p
  · simp only [Bool.and_eq_true] at hy
    exact h.rest y hy.1
theorem CameP.fin {S : List (List UInt8 × Int)} {left : Lit → Bool} {zs : List (List UInt8 × Int)} (h : CameP S left zs) (hl : ∀ kl, left kl = false) (p : List UInt8 × Int) : p ∈ zs ↔ p ∈ S :=
  (h.mem p).trans ⟨fun k => k.1, fun k => ⟨k, hl _⟩⟩
end Go.Proofs.YtjbdmlpadoiicaaGreatDoor

/-! Readings of package beam where there is no error. -/
namespace Go.Proofs.YtjbdmlpadoiicaaGreatDoor
open Go.RowKit Go.Shelf

theorem PRow.form {w : World} {v : Value} {l : List (List UInt8 × Int)} (h : PRow w v l) : ∃ a cap, v = .slice a l.length cap ∧ ∀ k, k < l.length → ∃ b, a = some ⟨b, 0, none⟩ ∧ b < w.heap.size ∧
    w.cell? ⟨b, 2 * k, none⟩ = some (.string (B (l.getD k ([], 0)).1)) ∧ w.cell? ⟨b, 2 * k + 1, none⟩ = some (.int .i64 (l.getD k ([], 0)).2) := by
  rcases h with ⟨rfl, rfl⟩ | ⟨b, cap, rfl, h1, h2, h3⟩
  · exact ⟨none, 0, rfl, fun k hk => by simp at hk⟩
  · exact ⟨_, cap, rfl, fun k hk => ⟨b, rfl, h2, (h3 k hk).1, (h3 k hk).2⟩⟩
theorem PRow.keep {w w' : World} {v : Value} {l : List (List UInt8 × Int)} (h : PRow w v l) (hb : Below w.heap.size w w') : PRow w' v l := by
  rcases h with h | ⟨b, cap, h0, h1, h2, h3⟩
  · exact .inl h
  · exact .inr ⟨b, cap, h0, h1, Nat.lt_of_lt_of_le h2 hb.size, fun k hk => ⟨(hb.cell (p := ⟨b, 2 * k, none⟩) h2).trans (h3 k hk).1, (hb.cell (p := ⟨b, 2 * k + 1, none⟩) h2).trans (h3 k hk).2⟩⟩

theorem list_card {r : List UInt8} {m : Int} {L : List (List UInt8 × Int)} (hL : L.Pairwise ltP) (hm : ∀ p, p ∈ L ↔ p ∈ foundL m r 10) : L.length ≤ (foundL m r 10).length := by
  have h1 : (L.map Prod.fst).Nodup := by
    unfold List.Nodup
    rw [List.pairwise_map]
    refine hL.imp_of_mem fun {p q} hp hq h e => ?_
    have h2 := (mem_found.1 (show (p.1, p.2) ∈ _ from (hm p).1 hp)).2.2
    have h3 := (mem_found.1 (show (q.1, q.2) ∈ _ from (hm q).1 hq)).2.2
    have : p = q := Prod.ext e (by rw [h2, h3, e])
    rw [this] at h; exact ltP_irr _ h
  have := nodup_len h1 (b := (foundL m r 10).map Prod.fst) (fun x hx => by
    obtain ⟨p, hp, rfl⟩ := List.mem_map.1 hx
    exact List.mem_map_of_mem ((hm p).1 hp))
  simpa using this

set_option maxRecDepth 100000 in
set_option maxHeartbeats 2000000 in
theorem Readings_ok (r : List UInt8) (m : Nat) (w : World) (hE : resE r m = 0) (hG : Glob w) :
    Calls Tryz.prog 8 #[.string (B r), .int .i64 m] w fun e w' => ∃ v L, e = .returned (.tuple #[v, .int .i64 0]) ∧ PRow w' v L ∧ L.Pairwise ltP ∧ (∀ p, p ∈ L ↔ p ∈ foundL m r 10) ∧ Below w.heap.size w w' := by
  obtain ⟨h1, h2, h3⟩ := resE_ok hE
  have hs : (B r).size ≤ maxLen := by rw [size_B]; unfold maxLen; omega
  have HQ : Hid (orI (flashE r 100) (faultsE m) = 0) := Lib.hid hE
  have hm2 : m ≤ 2 := by omega
  obtain ⟨i0, hi0, hz0, hz1, hz2⟩ := info_parts info_sent
  have hcard := found_card hm2 h1
  have hb0 : Below w.heap.size w (w.alloc (.cells #[.int .i64 (flashE r 100), .int .i64 (faultsE m)] 24)) := (Below.refl w.heap.size w).alloc (Nat.le_refl _) _
  have HRd := Lib.hid (readings_any r m (by omega) h1 (by omega) (w.alloc (.cells #[.int .i64 (flashE r 100), .int .i64 (faultsE m)] 24)) (hG.env.below hb0) (hG.below hb0).parts)
  have HC := Lib.hid hcard
  have hsz0 : (w.alloc (.cells #[.int .i64 (flashE r 100), .int .i64 (faultsE m)] 24)).heap.size = w.heap.size + 1 := by simp
  rw [hsz0] at HRd
  obtain ⟨S, eS⟩ : ∃ S, foundL m r 10 = S := ⟨_, rfl⟩
  have hnd : (S.map Prod.fst).Nodup := by rw [← eS]; exact found_nodup m r
  rw [eS] at HRd HC ⊢
  have HND := Lib.hid hnd
  have HB0 := Lib.hid hb0
  clear hE hG h2 h3 hcard eS hnd hb0 hsz0
  go_enter Tryz.func8, Tryz.ntmps8
  go_wp2_with fail
  refine (checkFlashes_any _ _ _ hs).mono ?_
  rintro e w' ⟨rfl, rfl⟩
  go_wp2_with fail
  refine (checkFaults_any _ _).mono ?_
  rintro e w' ⟨rfl, rfl⟩
  go_wp2_with fail
  refine (or_two _ _ _ _ (cell_two0 _ _ _ _) (cell_two1 _ _ _ _)).mono ?_
  rintro e w'' ⟨rfl, rfl⟩
  rw [HQ.out]
  go_wp2_with fail
  refine HRd.out.mono ?_
  rintro e w2 ⟨Mb, rfl, ⟨D, hown, hrep⟩, hb2, hMb⟩
  have hMw : Mb < w2.heap.size := hown.lt
  have HRep := Lib.hid hrep
  have HSZ := Lib.hid hown.size_le
  have HB2 : Hid (Below w.heap.size w w2) := Lib.hid (HB0.out.trans (hb2.mono (by omega)))
  clear hrep hb2
  go_wp2_with (first
    | (at_range; refine wpList_range_own _ rfl _ 79 rfl 9 3 lawStr Tryz.underlying79 _ Mb S.length _ rfl hown ?_; intro w0 hrg0 hg0 hs0)
    | go_in)
  go_frame
  have hB3 : Below w2.heap.size w2 w0 := (Below.refl _ _).grown hg0 (Nat.le_refl _) (fun k e => by cases e)
  obtain ⟨Q, hQ⟩ : ∃ Q, w2.heap.size = Q := ⟨_, rfl⟩
  rw [hQ] at hrg0 hs0 hMw hB3 ⊢
  have HQ2 := Lib.hid hQ
  have HB3 := Lib.hid hB3
  clear hg0 hown hQ hB3
  go_loopw [7, 8, 9] (fun v _ _ wr => ∃ (left : Lit → Bool) (cnt : Nat) (zs : List (List UInt8 × Int)), wr.ranges Tryz.prog 9 (plainElem (H := Unit) Tryz.prog 3) Mb Q S.length D left cnt ∧
      wr.ownsRow (Q + 1) 61 2 v zs.length (zs.flatMap encP) ∧ Hid (CameP S left zs) ∧ zs.length + cnt ≤ S.length ∧ Hid (Q + 1 ≤ wr.heap.size) ∧ Hid (Below Q w2 wr))
    (fun _ _ _ wr => wr.rangeLeft Mb Q)
  case atStart => exact ⟨_, _, [], hrg0, World.ownsRow_nil _ _ _ _, Lib.hid (CameP.start HRep.out), by simpa using HSZ.out, Lib.hid (by omega), HB3⟩
  case round =>
    obtain ⟨left, cnt, zs, hrg, hrow, hC, hlen, hsw, hB⟩ := hrel
    go_wp2_with (first
      | (at_next; refine wpList_next_num _ rfl _ rfl Mb Q S.length D _ _ rfl hrg ?_ ?_)
      | go_in)
    · intro hc0 hl0
      have HFin := Lib.hid (fun p => hC.out.fin hl0 p)
      clear hl0 hrg
      have HK := Lib.hid hC.out.keys
      have hzl : zs.length ≤ 1000000 := by have := HC.out; omega
      have HBw : Hid (Below w.heap.size w wr) := Lib.hid (HB2.out.trans (hB.out.mono (by have := HB2.out.size; have := HQ2.out; omega)))
      have hQw : w.heap.size ≤ Q := by have := HB2.out.size; have := HQ2.out; omega
      rcases hrow.2 with ⟨hv, hz0⟩ | ⟨g, cap, cur, hv, hg, _⟩
      · subst hv
        have hzs : zs = [] := List.eq_nil_of_length_eq_zero hz0
        subst hzs
        clear hrow hC
        go_wp2_with fail
        refine (sort_none none 0 _ _).mono ?_
        rintro e w' ⟨rfl, rfl⟩
        go_wp2_with fail
        go_ret2
        exact ⟨_, [], ret_val rfl, .inl ⟨rfl, rfl⟩, .nil, fun p => by rw [← HFin.out p], HBw.out⟩
      · subst hv
        have HS := Lib.hid (sort_some HK.out hzl _ hrow)
        clear hrow hC
        go_wp2_with fail
        refine HS.out.mono ?_
        rintro e w' ⟨rfl, L, hP, hL, hm, hgr⟩
        have HP := Lib.hid hP; have HL := Lib.hid hL; have HM := Lib.hid hm
        have HB9 := Lib.hid (HBw.out.grown hgr HBw.out.size (fun k e => by cases e; omega))
        clear hP hL hm hgr
        go_wp2_with fail
        go_ret2
        exact ⟨_, L, ret_val rfl, HP.out, HL.out, fun p => (HM.out p).trans (HFin.out p), HB9.out⟩
    · intro x c w1 cnt1 hlk hat hrg1 hlt hg1 hs1 hen
      have hm0 : wr.rangeLeft Mb Q = cnt := hrg.left_eq
      have hrow1 := hrow.kept hg1 (by
        rcases hrow.2 with ⟨h, _⟩ | ⟨g, cap, cur, h, hg, _⟩
        · left; rw [h]; rfl
        · right; rw [h]; simp [Value.ownBlock]; omega)
      have HB1 := Lib.hid (hB.out.grown hg1 (by have := hB.out.size; have := HQ2.out; omega) (fun k e => by cases e; exact Nat.le_refl _))
      have hsw1 : Q + 1 ≤ w1.heap.size := by rw [hs1]; exact hsw.out
      have HC1 := Lib.hid (hC.out.step HRep.out HND.out hlk hat)
      have HRG1 := Lib.hid hrg1
      have hlc := HC.out
      have h63 : zs.length + 1 ≤ maxLen := by unfold maxLen; omega
      have hby : (zs.length + 1) * 24 ≤ 140737488355328 := by omega
      have hlen1 : zs.length + 1 + cnt1 ≤ S.length := by omega
      have HM0 := Lib.hid hm0
      clear hrg hrow hrg1 hg1 hC hB hsw hs1 hlk hat hm0 hlc
      go_wp2_with (at_builtin; refine wpList_append_own _ rfl _ _ 23 rfl (Q + 1) 61 i0 (.agg #[.string ⟨#[]⟩, .int .i64 0]) 2 24 Tryz.underlying23 hi0 hz0 hz1 hz2 rfl (by decide) _ _ _ rfl (hrow1.alloc _) ⟨w1.heap.size, 0, none⟩ 1 1 [.string (B x), .int .i64 c] rfl rfl (fun j u h => cell_two_new' _ _ _ _ j u h) (by simp [Value.oneCell']) h63 hby (by simp; omega) ?_; intro v' w3 hown' hgrow _)
      have hfar : ∀ k, k < Q + 1 → some k ≠ u7.ownBlock := fun k hk e => by
        have := (hrow1.lt k e.symm).1; omega
      have hrg3 := (HRG1.out.alloc _).kept hgrow (hfar _ (by omega)) (hfar _ (by omega))
      have hsw3 : Q + 1 ≤ w3.heap.size := by have := hgrow.size; simp at this; omega
      have HB3' := Lib.hid ((HB1.out.alloc (by omega) _).grown hgrow (by simp; omega) (fun k e => by have := (hrow1.lt k e).1; omega))
      clear hgrow hfar
      go_wp2_with fail
      go_roundw
      case rel => exact ⟨_, cnt1, zs ++ [(x, c)], hrg3, by rw [List.length_append, List.flatMap_append]; simpa [encP] using hown', HC1, by simp; omega, Lib.hid hsw3, HB3'⟩
      case measure => rw [hrg3.left_eq, HM0.out]; exact hlt
end Go.Proofs.YtjbdmlpadoiicaaGreatDoor
