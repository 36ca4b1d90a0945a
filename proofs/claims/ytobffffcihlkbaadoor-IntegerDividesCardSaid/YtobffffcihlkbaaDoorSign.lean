/- Walks of integer: Sign, bitsOf, Bits. -/
import Derived.Test.YtobffffcihlkbaaDoorInt
import Derived.Test.YtobffffcihlkbaaDoorShelf
import Derived.Lib.BitFns
namespace Lw
open Go
def signI (z : Int) : Int := if z < 0 then -1 else if z = 0 then 0 else 1
/-- The number of bits of a trimmed list. -/
def nbits (l : List Nat) : Nat := if l.length = 0 then 0 else (l.length - 1) * 32 + Lib.bitLen (dg l (l.length - 1))
theorem bitLen_32 {x : Nat} (h : x < 4294967296) : Lib.bitLen x ≤ 32 := Lib.bitLen_le x 32 (by omega) (by simpa using h)
theorem mg_nil_iff {z : Int} : (mg z).length = 0 ↔ z = 0 := by
  rw [List.length_eq_zero_iff]; unfold mg; rw [digs_eq_nil]; omega
end Lw
namespace Go.Proofs.YtobffffcihlkbaaDoor
open Go Go.RowKit Lw
set_option maxHeartbeats 1600000 in
theorem bitsOf_any (A : Option Addr) (ns : List Nat) (n c B : Nat) (w : World) (h : Rd w B A ns) (hn : ns.length = n) (hl : n ≤ 16777216) :
    Calls Tryd.prog 52 #[.slice A n c] w fun e w' => e = .returned (.int .i64 (nbits ns)) ∧ w = w' := by
  have Hn := Lib.hid hn
  clear hn
  by_cases h0 : n = 0
  · have HN : Hid (0 = nbits ns) := Lib.hid (by unfold nbits; rw [if_pos (by rw [Hn.out]; exact h0)])
    subst h0
    go_enter Tryd.func52, Tryd.ntmps52
    go_wp2_with fail
    go_ret
    exact ⟨ret_int (by rw [← HN.out]; rfl), rfl⟩
  · obtain ⟨b, off, rfl, hb, hcell, hlt⟩ := h.at_ (k := n - 1) (by rw [Hn.out]; omega)
    have hbq : ((n : Int) == 0) = false := by rw [beq_eq_false_iff_ne]; omega
    have hbl := bitLen_32 hlt
    have HN : Hid ((n - 1) * 32 + Lib.bitLen (dg ns (n - 1)) = nbits ns) := Lib.hid (by unfold nbits; rw [if_neg (by rw [Hn.out]; exact h0), Hn.out])
    go_enter Tryd.func52, Tryd.ntmps52
    go_wp2_with fail
    refine (Tryd.bits_Len32 _ _ (by omega) (by omega)).mono ?_
    rw [Int.toNat_natCast]
    rintro e w1 ⟨rfl, hw1⟩
    subst hw1
    go_wp2_with fail
    go_ret
    exact ⟨ret_int (by rw [← HN.out]; omega), rfl⟩

end Go.Proofs.YtobffffcihlkbaaDoor
