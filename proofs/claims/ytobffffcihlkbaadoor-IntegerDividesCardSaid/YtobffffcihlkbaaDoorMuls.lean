/- Walk of integer.Mul. -/
import Derived.Test.YtobffffcihlkbaaDoorSum
import Derived.Deep.RegionWith
import Derived.Deep.DeepCutAuto
import Derived.Deep.RegionHeld3
namespace Lw
theorem mul_form (a b : Int) : a * b = if (sg a != sg b) = true then -((a.natAbs * b.natAbs : Nat) : Int) else ((a.natAbs * b.natAbs : Nat) : Int) := by
  have ha := sg_mg a
  have hb := sg_mg b
  rw [val_mg] at ha hb
  rw [Int.natCast_mul]
  generalize (a.natAbs : Int) = x at *
  generalize (b.natAbs : Int) = y at *
  cases h1 : sg a <;> cases h2 : sg b <;> rw [h1] at ha <;> rw [h2] at hb <;> simp at ha hb <;> rw [ha, hb] <;> simp [Int.neg_mul, Int.mul_neg]
end Lw
namespace Go.Proofs.YtobffffcihlkbaaDoor
open Go Go.RowKit Lw
attribute [local go_sem ↓] Go.wp_at_zero Go.wp_at_succ

end Go.Proofs.YtobffffcihlkbaaDoor
