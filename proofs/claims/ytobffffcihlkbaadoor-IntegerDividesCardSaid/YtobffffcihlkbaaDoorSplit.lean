/- Walks of integer: split, Of, Int, Sign, Bits. -/
import Derived.Test.YtobffffcihlkbaaDoorClone
namespace Lw
theorem val_two (a b : Nat) : val [a, b] = a + 4294967296 * b := by simp [val]
theorem wds_two {a b : Nat} (ha : a < 4294967296) (hb : b < 4294967296) : Wds [a, b] := by rw [wds_cons, wds_cons]; exact ⟨ha, hb, wds_nil⟩
open Go
theorem wrap_neg {z : Int} (h1 : -9223372036854775808 ≤ z) (h0 : z < 0) : ∃ D N : Nat, IntKind.u64.wrap z = (D : Int) ∧ IntKind.u64.wrap (-(D : Int)) = (N : Int) ∧ z = -(N : Int) ∧ N ≤ 9223372036854775808 ∧ D ≤ 18446744073709551615 := by
  refine ⟨(z + 18446744073709551616).toNat, z.natAbs, ?_, ?_, by omega, by omega, by omega⟩
  · rw [IntKind.wrap_u64]; omega
  · rw [IntKind.wrap_u64]; omega
end Lw
namespace Go.Proofs.YtobffffcihlkbaaDoor
open Go Go.RowKit Lw
theorem blk_two (w : World) (t : TypeId) {a b : Int} {x y : Nat} (ha : a = x) (hb : b = y) : Blk (w.alloc (.cells #[.int .u32 a, .int .u32 b] t)) w.heap.size t [x, y] := by
  subst ha hb; exact Blk.new w t [x, y]
set_option maxHeartbeats 800000 in
theorem split_any (x : Nat) (w : World) (hx : x ≤ 18446744073709551615) :
    Calls Tryd.prog 46 #[.int .u64 x] w (OutW w x) := by
  have hb := blk_two w 46 (a := (x : Int) % 4294967296) (b := (x : Int) / 4294967296) (x := x % 4294967296) (y := x / 4294967296) (by omega) (by omega)
  have hw : Wds [x % 4294967296, x / 4294967296] := wds_two (by omega) (by omega)
  have hv : Hid (val [x % 4294967296, x / 4294967296] = x) := Lib.hid (by rw [val_two]; omega)
  have hl : Hid ((digs x).length ≤ 2) := Lib.hid (digs_length_le (k := 2) (by show x < 18446744073709551616; omega))
  go_enter Tryd.func46, Tryd.ntmps46
  go_wp2_with fail
  refine (trim_any _ [x % 4294967296, x / 4294967296] 2 2 _ _ (hb.rd hw) rfl (by omega) (by omega)).mono ?_
  rintro e w' ⟨rfl, rfl⟩
  go_wp2_with fail
  go_ret
  refine ⟨_, _, ret_slice (by rw [hv.out]), hl.out, ?_, (Below.refl _ _).alloc (Nat.le_refl _) _⟩
  have := (hb.rd hw).digs
  rw [hv.out] at this; exact this

/-! ### Of: an int as an integer. -/
end Go.Proofs.YtobffffcihlkbaaDoor
