/- A letter cut out of all letters. -/
import Derived.Test.YtjhkgfbkpgnodaaGreatDoorP0
namespace Go.Proofs.YtjhkgfbkpgnodaaGreatDoor
open Go.RowKit Go.Shelf

theorem cut_run2 (v y : Int) (w : World) (h0 : 0 ≤ v) (h1 : v < 29) (hy : y = v + 1) : (Instr.slice 9 (.string ⟨#[43, 97, 98, 99, 100, 101, 102, 103, 104, 105, 106, 107, 108, 109, 110, 111, 112, 113, 114, 115, 116, 117, 118, 119, 120, 121, 122, 42, 35]⟩) (some (.int .i64 v)) (some (.int .i64 y)) none).run Tryz.prog w = .ok (.string (B (signL v))) w := by
  have := cut_run v h0 w
  rw [Int.emod_eq_of_lt h0 h1, ← hy] at this
  exact this
end Go.Proofs.YtjhkgfbkpgnodaaGreatDoor
