/- Walks of integer: Neg, Sign, Cmp. -/
import Derived.Test.YtobffffcihlkbaaDoorClone
import Derived.Deep.RegionHeld3
import Derived.Deep.DrawnRows
namespace Lw
theorem neg_form (z : Int) : -z = if (!sg z) = true then -(z.natAbs : Int) else (z.natAbs : Int) := by
  unfold sg
  by_cases hz : z < 0
  · simp [hz]; omega
  · simp [hz]; omega
end Lw
namespace Go.Proofs.YtobffffcihlkbaaDoor
open Go Go.RowKit Lw
attribute [local go_sem ↓] Go.wp_at_zero Go.wp_at_succ
end Go.Proofs.YtobffffcihlkbaaDoor
