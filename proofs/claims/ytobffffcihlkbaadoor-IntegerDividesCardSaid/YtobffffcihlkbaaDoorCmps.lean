/- Walk of integer.Cmp. -/
import Derived.Test.YtobffffcihlkbaaDoorMuls
import Derived.Deep.RegionWith
import Derived.Deep.DeepCutAuto
namespace Lw
def cmpI (a b : Int) : Int := if a < b then -1 else if a = b then 0 else 1
theorem cmpI_pp {a b : Int} (ha : sg a = false) (hb : sg b = false) : cmpN a.natAbs b.natAbs = cmpI a b := by
  unfold sg at *; simp at ha hb; unfold cmpN cmpI; split <;> split <;> (try split) <;> (try split) <;> omega
theorem cmpI_mm {a b : Int} (ha : sg a = true) (hb : sg b = true) : cmpN b.natAbs a.natAbs = cmpI a b := by
  unfold sg at *; simp at ha hb; unfold cmpN cmpI; split <;> split <;> (try split) <;> (try split) <;> omega
theorem cmpI_pm {a b : Int} (ha : sg a = false) (hb : sg b = true) : 1 = cmpI a b := by
  unfold sg at *; simp at ha hb; unfold cmpI; rw [if_neg (by omega), if_neg (by omega)]
theorem cmpI_mp {a b : Int} (ha : sg a = true) (hb : sg b = false) : -1 = cmpI a b := by
  unfold sg at *; simp at ha hb; unfold cmpI; rw [if_pos (by omega)]
end Lw
namespace Go.Proofs.YtobffffcihlkbaaDoor
open Go Go.RowKit Lw
attribute [local go_sem ↓] Go.wp_at_zero Go.wp_at_succ

end Go.Proofs.YtobffffcihlkbaaDoor
