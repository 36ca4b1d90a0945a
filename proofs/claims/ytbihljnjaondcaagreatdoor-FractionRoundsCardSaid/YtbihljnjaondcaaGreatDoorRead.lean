/- Walks of integer: appendTimes, readDigits, plain. -/
import Derived.Test.YtbihljnjaondcaaGreatDoorText
import Derived.Test.YtbihljnjaondcaaGreatDoorGcdsmall
namespace Lw
open Go
/-- The number of decimal digits, from the front. -/
def dval (l : List UInt8) : Nat := l.foldl (fun v b => v * 10 + (b.toNat - 48)) 0
def Digs (l : List UInt8) : Prop := ∀ b ∈ l, 48 ≤ b.toNat ∧ b.toNat ≤ 57
theorem dval_snoc (l : List UInt8) (b : UInt8) : dval (l ++ [b]) = dval l * 10 + (b.toNat - 48) := by simp [dval]
end Lw
namespace Go.Proofs.YtbihljnjaondcaaGreatDoor
open Go Go.RowKit Lw
end Go.Proofs.YtbihljnjaondcaaGreatDoor
/-! Walks of integer: readDigits, plain. -/
namespace Lw
open Go
end Lw
namespace Go.Proofs.YtbihljnjaondcaaGreatDoor
open Go Go.RowKit Lw
end Go.Proofs.YtbihljnjaondcaaGreatDoor
/-! Walks of integer: plain, Parse of the text of an integer. -/
namespace Lw
open Go
/-- The digits of a number: some, no zero in front but a single one. -/
def Plain (l : List UInt8) : Prop := 0 < l.length ∧ Digs l ∧ (1 < l.length → ∀ h : 0 < l.length, (l[0]'h).toNat ≠ 48)
end Lw
namespace Go.Proofs.YtbihljnjaondcaaGreatDoor
open Go Go.RowKit Lw
end Go.Proofs.YtbihljnjaondcaaGreatDoor
/-! Walk of integer.Parse at the text of an integer. -/
namespace Go.Proofs.YtbihljnjaondcaaGreatDoor
open Go Go.RowKit Lw
end Go.Proofs.YtbihljnjaondcaaGreatDoor
/-! The texts that Parse reads: exactly the texts of integers. -/
namespace Lw
open Go
end Lw
/-! Walks of integer: plain, Parse at what is no integer's text. -/
namespace Lw
open Go
theorem digs_more {l : List UInt8} {i : Nat} (h : i < l.length) (hd : Digs (l.take i)) (hb : 48 ≤ (l[i]'h).toNat ∧ (l[i]'h).toNat ≤ 57) : Digs (l.take (i + 1)) := by
  rw [List.take_succ_eq_append_getElem h]
  intro b hb'
  rw [List.mem_append, List.mem_singleton] at hb'
  rcases hb' with hb' | rfl
  · exact hd b hb'
  · exact hb
end Lw
namespace Go.Proofs.YtbihljnjaondcaaGreatDoor
open Go Go.RowKit Lw
end Go.Proofs.YtbihljnjaondcaaGreatDoor
