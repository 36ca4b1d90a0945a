/- Walks of integer: sum, Add, Sub. -/
import Derived.Test.YtobffffcihlkbaaDoorNeg
import Derived.Deep.RegionWith
import Derived.Deep.DeepCutAuto
namespace Lw
def sv (s : Bool) (N : Nat) : Int := if s then -(N : Int) else (N : Int)
theorem sv_sg (z : Int) : sv (sg z) z.natAbs = z := by have := sg_mg z; rw [val_mg] at this; exact this.symm
theorem sv_not_sg (z : Int) : sv (!sg z) z.natAbs = -z := (neg_form z).symm
theorem sv_eq (s s' : Bool) (h : (s == s') = true) (N M : Nat) : sv s N + sv s' M = sv s (N + M) := by
  cases s <;> cases s' <;> simp [sv] at * <;> omega
theorem sv_ne (s s' : Bool) (h : (s == s') = false) {N M : Nat} (hle : M ≤ N) : sv s N + sv s' M = sv s (N - M) := by
  cases s <;> cases s' <;> simp [sv] at * <;> omega
theorem sv_ne' (s s' : Bool) (h : (s == s') = false) {N M : Nat} (hle : N ≤ M) : sv s N + sv s' M = sv s' (M - N) := by
  cases s <;> cases s' <;> simp [sv] at * <;> omega
theorem cmpN_neg {a b : Nat} (h : a < b) : cmpN a b < 0 := by rw [cmpN_lt h]; omega
theorem cmpN_nonneg {a b : Nat} (h : b ≤ a) : ¬ cmpN a b < 0 := by unfold cmpN; rw [if_neg (by omega)]; split <;> omega
end Lw
namespace Go.Proofs.YtobffffcihlkbaaDoor
open Go Go.RowKit Lw
end Go.Proofs.YtobffffcihlkbaaDoor
/-! Walk of integer.Add. -/
namespace Go.Proofs.YtobffffcihlkbaaDoor
open Go Go.RowKit Lw
attribute [local go_sem ↓] Go.wp_at_zero Go.wp_at_succ

end Go.Proofs.YtobffffcihlkbaaDoor
/-! Walk of integer.Sub. -/
namespace Go.Proofs.YtobffffcihlkbaaDoor
open Go Go.RowKit Lw
attribute [local go_sem ↓] Go.wp_at_zero Go.wp_at_succ

end Go.Proofs.YtobffffcihlkbaaDoor
