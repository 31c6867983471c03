/- Theory of ridge: a map that is turned over, place by place. -/
import Derived.Test.YtjllkmekchmmbaaHT8
import Derived.Test.YtjllkmekchmmbaaHT1
set_option linter.unusedVariables false
set_option linter.unusedSimpArgs false
namespace Go.Proofs.Ytjllkmekchmmbaa
open Go Go.RowKit

theorem mir_inj {wd hg h : Int} {p q : Pl} (e : mirP wd hg h p = mirP wd hg h q) : p = q := by
  obtain ⟨I, ax, hT⟩ := mir_turn wd hg h
  rw [← hT.inv p, e, hT.inv]
theorem mir_vm {wd hg h : Int} {g g' : List Int} (hm : vmB wd hg g = true) (hl : g'.length = g.length) (hb : ∀ n ∈ g', 0 ≤ n ∧ n ≤ 4000) : vmB (mirW wd hg h) (mirW hg wd h) g' = true := by
  obtain ⟨a1, a2, a3, a4, a5, _⟩ := vmB_ok hm
  unfold vmB wiB mirW
  simp only [Bool.and_eq_true, decide_eq_true_eq, List.all_eq_true]
  by_cases e : h / 4 % 2 = 1
  · simp only [if_pos e]
    exact ⟨⟨⟨⟨a3, a4⟩, a1, a2⟩, by rw [hl, a5, Int.mul_comm]⟩, hb⟩
  · simp only [if_neg e]
    exact ⟨⟨⟨⟨a1, a2⟩, a3, a4⟩, by rw [hl, a5]⟩, hb⟩
/-- The places up to one have their heights on the map that is turned over. -/
structure MirOk (wd hg h : Int) (g g' : List Int) (x y : Int) : Prop where
  len : g'.length = g.length
  bd : ∀ n ∈ g', 0 ≤ n ∧ n ≤ 4000
  done : ∀ q, onB wd hg q = true → (q.2 < y ∨ q.2 = y ∧ q.1 < x) → hAt g' (mirW wd hg h) (mirP wd hg h q) = hAt g wd q
theorem MirOk.step {wd hg h x y : Int} {g g' : List Int} (hm : vmB wd hg g = true) (hp : onB wd hg (x, y) = true) (H : MirOk wd hg h g g' x y) :
    MirOk wd hg h g (g'.set (ixN (mirW wd hg h) (mirP wd hg h (x, y))) (hAt g wd (x, y))) (x + 1) y := by
  have hm' := mir_vm (h := h) hm H.len H.bd
  have ho := mir_on (h := h) hp
  obtain ⟨_, i1, i2, _⟩ := on_idx hm' ho
  have hix : ixN (mirW wd hg h) (mirP wd hg h (x, y)) < g'.length := by unfold ixN; omega
  refine ⟨by rw [List.length_set]; exact H.len, fun n hn => ?_, fun q hq hlt => ?_⟩
  · rcases List.mem_or_eq_of_mem_set hn with h2 | rfl
    · exact H.bd n h2
    · exact hAt_bd hm hp
  · rw [hAt_set _ _ _ _ _ hix]
    by_cases e : q = (x, y)
    · subst e; rw [if_pos rfl]
    · rw [if_neg (fun e' => e (mir_inj (ix_inj (mir_on hq) ho e')))]
      refine H.done q hq ?_
      obtain ⟨q1, q2⟩ := q
      simp only [Prod.mk.injEq] at e hlt ⊢
      omega
theorem MirOk.row {wd hg h y : Int} {g g' : List Int} (H : MirOk wd hg h g g' wd y) : MirOk wd hg h g g' 0 (y + 1) :=
  ⟨H.len, H.bd, fun q hq hlt => H.done q hq (by obtain ⟨a1, a2, a3, a4⟩ := onB_ok hq; omega)⟩
theorem MirOk.start {wd hg : Int} (h : Int) {g : List Int} (hm : vmB wd hg g = true) : MirOk wd hg h g g 0 0 := by
  obtain ⟨_, _, _, _, _, a6⟩ := vmB_ok hm
  exact ⟨rfl, a6, fun q hq hlt => by obtain ⟨a1, a2, a3, a4⟩ := onB_ok hq; omega⟩
/-- What is said of a map behind the turn. -/
theorem MirOk.end {wd hg h : Int} {g g' : List Int} (H : MirOk wd hg h g g' 0 hg) : ∀ q, onB wd hg q = true → hAt g' (mirW wd hg h) (mirP wd hg h q) = hAt g wd q :=
  fun q hq => H.done q hq (by obtain ⟨a1, a2, a3, a4⟩ := onB_ok hq; omega)
theorem mir_index {wd hg h : Int} {g g' : List Int} {p : Pl} (hm : vmB wd hg g = true) (hp : onB wd hg p = true) (hl : g'.length = g.length) (hb : ∀ n ∈ g', 0 ≤ n ∧ n ≤ 4000) :
    (0 ≤ (mirP wd hg h p).2 * mirW wd hg h ∧ (mirP wd hg h p).2 * mirW wd hg h ≤ 2401) ∧ 0 ≤ (mirP wd hg h p).2 * mirW wd hg h + (mirP wd hg h p).1 ∧ (mirP wd hg h p).2 * mirW wd hg h + (mirP wd hg h p).1 < g.length ∧ g.length ≤ 2401 := by
  have := on_idx (mir_vm (h := h) hm hl hb) (mir_on (h := h) hp)
  rwa [hl] at this
theorem vl_mirror {wd hg h : Int} {g g' : List Int} {a b : Pl} (hm : vmB wd hg g = true) (ha : onB wd hg a = true) (hb : onB wd hg b = true) (hm' : vmB (mirW wd hg h) (mirW hg wd h) g' = true) (l : List Int) :
    vlB (mirW wd hg h) (mirW hg wd h) g' (mirP wd hg h a) (mirP wd hg h b) l = vlB wd hg g a b l := by
  unfold vlB
  rw [hm, ha, hb, hm', mir_on ha, mir_on hb]
end Go.Proofs.Ytjllkmekchmmbaa
