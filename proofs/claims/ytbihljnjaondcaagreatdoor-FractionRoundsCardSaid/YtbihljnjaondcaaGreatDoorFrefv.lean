/- The reference of fractions, Min and Max on any value at hand. -/
import Derived.Test.YtbihljnjaondcaaGreatDoorFmm
namespace Go.Proofs.YtbihljnjaondcaaGreatDoor
open Go Go.RowKit Lw
section
variable {W0 w : World} {bs : List Bx} {L : List En} {ts : List Bt} {M : List Qn} {v v' : Value} {q r : Rat} {k k' : Nat} {b b' : Bool}
end
end Go.Proofs.YtbihljnjaondcaaGreatDoor
/-! Make and From with their errors: program and reference at once; the reference's Same of integers; a box of four cells. -/
namespace Lw
open Go Go.RowKit
def Quad (w : World) (g : Nat) (t : TypeId) (a b c d : Value) : Prop := w.heap[g]? = some (.cells #[a, b, c, d] t (0, 0))
section
variable {w w' : World} {g : Nat} {t : TypeId} {a b c d : Value}
theorem Quad.lt (h : Quad w g t a b c d) : g < w.heap.size := by
  rcases Nat.lt_or_ge g w.heap.size with hlt | hge
  · exact hlt
  · unfold Quad at h; rw [Array.getElem?_eq_none hge] at h; cases h
theorem Quad.new (w : World) (t : TypeId) (a b c d : Value) : Quad (w.alloc (.cells #[a, b, c, d] t)) w.heap.size t a b c d := heap_alloc_new w _
theorem Quad.next (h : Quad w g t a b c d) (hb : Below w.heap.size w w') : Quad w' g t a b c d := (hb.block g h.lt).trans h
theorem Quad.cells (h : Quad w g t a b c d) : w.cell? ⟨g, 0, none⟩ = some a ∧ w.cell? ⟨g, 1, none⟩ = some b ∧ w.cell? ⟨g, 2, none⟩ = some c ∧ w.cell? ⟨g, 3, none⟩ = some d := by
  unfold Quad at h
  exact ⟨by rw [cell_of_row w g 0 _ t (0, 0) h]; rfl, by rw [cell_of_row w g 1 _ t (0, 0) h]; rfl, by rw [cell_of_row w g 2 _ t (0, 0) h]; rfl, by rw [cell_of_row w g 3 _ t (0, 0) h]; rfl⟩
end
end Lw
namespace Go.Proofs.YtbihljnjaondcaaGreatDoor
open Go Go.RowKit Lw
/-- A fraction and whatever stands for the error, handed back. -/
def GotX (W0 : World) (bs : List Bx) (L : List En) (ts : List Bt) (M : List Qn) (q : Rat) (k : Nat) (er : Value) (e : Ending) (w' : World) : Prop :=
  ∃ (s : Bool) (A : Option Addr) (n c : Nat) (A' : Option Addr) (n' c' : Nat), e = .returned (.tuple #[.agg #[.bool s, .slice A n c, .slice A' n' c'], er]) ∧ FEnv W0 w' bs L ts (⟨.agg #[.bool s, .slice A n c, .slice A' n' c'], q, k, true⟩ :: M)
section
variable {W0 w : World} {bs : List Bx} {L : List En} {ts : List Bt} {M : List Qn} {v v' : Value} {q r : Rat} {x y : Int} {k k' : Nat} {b b' : Bool}
theorem GotX.weak {k K : Nat} {er : Value} {e : Ending} (h : GotX W0 bs L ts M q k er e w) (hk : k ≤ K) : GotX W0 bs L ts M q K er e w := by
  obtain ⟨s, A, n, c, A', n', c', e1, he⟩ := h
  exact ⟨s, A, n, c, A', n', c', e1, he.hd (·.weak hk)⟩
theorem rsame_f (HE : FEnv W0 w bs L ts M) (h : ⟨v, x, k, true⟩ ∈ L) (h' : ⟨v', y, k', true⟩ ∈ L) (hk : k + k' ≤ 100000) (hxy : x = y) :
    Calls Tryz.prog 22 #[v, v'] w fun e w' => e = .returned (.bool true) ∧ FEnv W0 w' bs L ts M := (same_env HE.env.here h h' hk hxy).mono fun _ _ hh => ⟨hh.1, HE.step hh.2⟩
end
end Go.Proofs.YtbihljnjaondcaaGreatDoor
