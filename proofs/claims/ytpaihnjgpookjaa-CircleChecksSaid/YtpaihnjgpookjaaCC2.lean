/- Package circle: the things of a circle as one sorted list. -/
import Derived.Test.YtpaihnjgpookjaaCC1
set_option linter.unusedVariables false
set_option linter.unusedSimpArgs false
namespace Go.Proofs.Ytpaihnjgpookjaa
open Go Go.RowKit

def insH (a : Th) : List Th → List Th
  | [] => [a]
  | b :: l => if a.id ≤ b.id then a :: b :: l else b :: insH a l
def srtH (l : List Th) : List Th := l.foldr insH []
theorem insH_perm (a : Th) : ∀ l, (insH a l).Perm (a :: l)
  | [] => List.Perm.refl _
  | b :: l => by
    unfold insH
    split
    · exact List.Perm.refl _
    · exact ((insH_perm a l).cons b).trans (List.Perm.swap a b l)
theorem insH_ord (a : Th) : ∀ l : List Th, l.Pairwise (fun s t => s.id ≤ t.id) → (insH a l).Pairwise (fun s t => s.id ≤ t.id)
  | [], _ => List.pairwise_singleton _ _
  | b :: l, h => by
    obtain ⟨h1, h2⟩ := List.pairwise_cons.1 h
    unfold insH
    split
    · rename_i hab
      refine List.pairwise_cons.2 ⟨fun x hx => ?_, h⟩
      rcases List.mem_cons.1 hx with rfl | hx
      · exact hab
      · exact Int.le_trans hab (h1 x hx)
    · rename_i hab
      refine List.pairwise_cons.2 ⟨fun x hx => ?_, insH_ord a l h2⟩
      rcases List.mem_cons.1 ((insH_perm a l).mem_iff.1 hx) with rfl | hx
      · omega
      · exact h1 x hx
theorem srtH_perm : ∀ l : List Th, (srtH l).Perm l
  | [] => List.Perm.refl _
  | a :: l => (insH_perm a _).trans ((srtH_perm l).cons a)
theorem srtH_ord : ∀ l : List Th, (srtH l).Pairwise (fun s t => s.id ≤ t.id)
  | [] => List.Pairwise.nil
  | a :: l => insH_ord a _ (srtH_ord l)
theorem OrdH.eq {L l : List Th} (h : OrdH L l) : L = srtH l := by
  refine List.Perm.eq_of_pairwise (le := fun s t : Th => s.id ≤ t.id) ?_ (h.2.imp fun {a b} hab => Int.le_of_lt hab) (srtH_ord l) (h.1.trans (srtH_perm l).symm)
  intro a b ha hb h1 h2
  have hb' : b ∈ L := h.1.mem_iff.2 ((srtH_perm l).mem_iff.1 hb)
  obtain ⟨i, hi, rfl⟩ := List.getElem_of_mem ha
  obtain ⟨j, hj, rfl⟩ := List.getElem_of_mem hb'
  have hp := List.pairwise_iff_getElem.1 h.2
  rcases Nat.lt_trichotomy i j with hij | rfl | hij
  · have := hp i j hi hj hij; omega
  · rfl
  · have := hp j i hj hi hij; omega
/-- The things of a circle in their order. -/
def dlL (z : Ci) (ks : List Ck) : List Th := srtH (thL z ks)
theorem Th.of_ok {x y : Int} {k : Ck} (h : 0 ≤ k.t ∧ k.t ≤ 1048576) : (Th.of x y k).ok := by
  unfold Th.of Th.ok
  refine ⟨h, ?_⟩
  cases hb : alB x y k
  · simp
  · unfold alB at hb
    have h1 : alL x y k ≤ alH x y k := by simpa using hb
    have h2 : -300 ≤ alL x y k := by unfold alL; omega
    have h3 : alH x y k ≤ 300 := by unfold alH; omega
    simp only [if_true]
    omega
theorem ciF_ok {cs : List Ci} {ks : List Ck} (ho : CcOk cs ks) {id : Int} {z : Ci} (h : ciF cs id = some z) : z.ok = true := by
  obtain ⟨j, hj, hz, _⟩ := ciF_mem h
  have := (ho.ci j hj).1
  rwa [hz] at this
theorem dlL_ok {cs : List Ci} {ks : List Ck} (ho : CcOk cs ks) {id : Int} {z : Ci} (h : ciF cs id = some z) : ∀ t ∈ dlL z ks, t.ok := by
  intro t ht
  have hm := (srtH_perm (thL z ks)).mem_iff.1 ht
  have hz := Ci.ok_iff.1 (ciF_ok ho h)
  unfold thL at hm
  rcases List.mem_cons.1 hm with rfl | hm
  · unfold Th.beg Th.ok
    simp only
    omega
  · obtain ⟨k, hk, rfl⟩ := List.mem_map.1 hm
    obtain ⟨j, hj, hjk⟩ := List.getElem_of_mem ((List.mem_filter.1 hk).1)
    obtain ⟨⟨y, hy⟩, _⟩ := ho.ck j hj
    have e1 : ks.getD j .nil = k := by rw [List.getD_eq_getElem?_getD, List.getElem?_eq_getElem hj]; exact hjk
    rw [e1] at hy
    have hy2 := Ci.ok_iff.1 (ciF_ok ho hy.of)
    have := hy.t
    exact Th.of_ok ⟨by omega, by omega⟩
theorem dlL_len {cs : List Ci} {ks : List Ck} (ho : CcOk cs ks) (z : Ci) : (dlL z ks).length ≤ 61 := by
  unfold dlL
  rw [(srtH_perm _).length_eq]
  unfold thL
  rw [List.length_cons, List.length_map]
  have := List.length_filter_le (fun k => k.c == z.id) ks
  have := ho.m
  omega
def dl0 : Value := .agg #[.int .i64 0, .int .i64 0, .int .i64 0, .int .i64 0, .int .i64 0, .int .i64 0, .int .i64 0, .int .i64 0, .slice none 0 0]
/-- The answer of dialOf. -/
def DlOut (R : Option Ci) (ks : List Ck) (w : World) (e : Ending) (w' : World) : Prop :=
  Below w.heap.size w w' ∧ match R with
    | none => e = .returned (.tuple #[dl0, .bool false])
    | some z => ∃ v, e = .returned (.tuple #[dlV z v, .bool true]) ∧ ThRow w' v (dlL z ks) ∧ ThOwn w' v
theorem dialOf_one (v1 v2 : Value) (cs : List Ci) (ks : List Ck) (id : Int) (w : World) (hv1 : CiRow w v1 cs) (hv2 : CkRow w v2 ks) (ho : CcOk cs ks) :
    Calls Try.prog 76 #[.agg #[v1, v2], .int .i64 id] w fun e w' => DlOut (ciF cs id) ks w e w' := by
  refine (dialOf_any v1 v2 cs ks id w hv1 hv2 ho).mono ?_
  rintro e w' ⟨hb, h⟩
  refine ⟨hb, ?_⟩
  cases hc : ciF cs id with
  | none => rw [hc] at h; exact h
  | some z =>
    rw [hc] at h
    obtain ⟨v, L, he, hr, hL, hO⟩ := h
    exact ⟨v, he, by unfold dlL; rw [← hL.eq]; exact hr, hO⟩
end Go.Proofs.Ytpaihnjgpookjaa
