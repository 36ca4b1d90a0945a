/- Walks of integer: Int, Sign, Bits. -/
import Derived.Test.YtobffffcihlkbaaDoorSplit
namespace Lw
open Go
def fits (z : Int) : Bool := decide (-9223372036854775808 ≤ z ∧ z ≤ 9223372036854775807)
def intV (z : Int) : Int := if fits z then z else 0
theorem fits_yes {z : Int} (h : -9223372036854775808 ≤ z ∧ z ≤ 9223372036854775807) : fits z = true ∧ intV z = z := by
  have : fits z = true := by unfold fits; simpa using h
  exact ⟨this, by unfold intV; rw [this]; rfl⟩
theorem fits_no {z : Int} (h : ¬ (-9223372036854775808 ≤ z ∧ z ≤ 9223372036854775807)) : fits z = false ∧ intV z = 0 := by
  have : fits z = false := by unfold fits; simp only [decide_eq_false_iff_not]; exact h
  exact ⟨this, by unfold intV; rw [this]; rfl⟩
theorem mg_len_gt {z : Int} (h : 2 < (mg z).length) : 18446744073709551616 ≤ z.natAbs := by
  have := pw_le_val (mg_trm z) (by intro e; rw [e] at h; simp at h)
  rw [val_mg] at this
  have h2 : pw 2 ≤ pw ((mg z).length - 1) := pw_le (by omega)
  have h3 : pw 2 = 18446744073709551616 := rfl
  omega
theorem mg_low {z : Int} (h : (mg z).length ≤ 2) : lo (mg z) 2 = z.natAbs := by rw [lo_all h, val_mg]
theorem low_lt {l : List Nat} (h : Wds l) : lo l 2 ≤ 18446744073709551615 := by have := lo_lt h 2; have h3 : pw 2 = 18446744073709551616 := rfl; omega
theorem sg_true {z : Int} (h : sg z = true) : z = -(z.natAbs : Int) ∧ 0 < z.natAbs := by unfold sg at h; simp at h; omega
theorem sg_false {z : Int} (h : sg z = false) : z = (z.natAbs : Int) := by unfold sg at h; simp at h; omega
/-- '-size' of an uint64, as an int. -/
theorem neg_int {N : Nat} (h0 : 0 < N) (h : N ≤ 9223372036854775808) : ∃ D : Nat, IntKind.u64.wrap (-(N : Int)) = (D : Int) ∧ IntKind.i64.wrap (D : Int) = -(N : Int) ∧ D ≤ 18446744073709551615 := by
  refine ⟨18446744073709551616 - N, ?_, ?_, by omega⟩
  · rw [IntKind.wrap_u64]; omega
  · rw [IntKind.wrap_i64]; omega
end Lw
namespace Go.Proofs.YtobffffcihlkbaaDoor
open Go Go.RowKit Lw
theorem ret_pair {k : IntKind} {a b : Int} {p q : Bool} (h : a = b) (h' : p = q) : Ending.returned (.tuple #[.int k a, .bool p]) = Ending.returned (.tuple #[.int k b, .bool q]) := by rw [h, h']
end Go.Proofs.YtobffffcihlkbaaDoor
