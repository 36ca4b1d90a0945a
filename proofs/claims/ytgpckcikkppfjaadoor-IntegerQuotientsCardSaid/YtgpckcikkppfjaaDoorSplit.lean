/- Walks of integer: split, Of, Int, Sign, Bits. -/
import Derived.Test.YtgpckcikkppfjaaDoorClone
namespace Lw
theorem val_two (a b : Nat) : val [a, b] = a + 4294967296 * b := by simp [val]
theorem wds_two {a b : Nat} (ha : a < 4294967296) (hb : b < 4294967296) : Wds [a, b] := by rw [wds_cons, wds_cons]; exact ⟨ha, hb, wds_nil⟩
open Go
theorem wrap_neg {z : Int} (h1 : -9223372036854775808 ≤ z) (h0 : z < 0) : ∃ D N : Nat, IntKind.u64.wrap z = (D : Int) ∧ IntKind.u64.wrap (-(D : Int)) = (N : Int) ∧ z = -(N : Int) ∧ N ≤ 9223372036854775808 ∧ D ≤ 18446744073709551615 := by
  refine ⟨(z + 18446744073709551616).toNat, z.natAbs, ?_, ?_, by omega, by omega, by omega⟩
  · rw [IntKind.wrap_u64]; omega
  · rw [IntKind.wrap_u64]; omega
end Lw
namespace Go.Proofs.YtgpckcikkppfjaaDoor
open Go Go.RowKit Lw
theorem blk_two (w : World) (t : TypeId) {a b : Int} {x y : Nat} (ha : a = x) (hb : b = y) : Blk (w.alloc (.cells #[.int .u32 a, .int .u32 b] t)) w.heap.size t [x, y] := by
  subst ha hb; exact Blk.new w t [x, y]
set_option maxHeartbeats 800000 in
theorem split_any (x : Nat) (w : World) (hx : x ≤ 18446744073709551615) :
    Calls Tryd.prog 54 #[.int .u64 x] w (OutW w x) := by
  have hb := blk_two w 51 (a := (x : Int) % 4294967296) (b := (x : Int) / 4294967296) (x := x % 4294967296) (y := x / 4294967296) (by omega) (by omega)
  have hw : Wds [x % 4294967296, x / 4294967296] := wds_two (by omega) (by omega)
  have hv : Hid (val [x % 4294967296, x / 4294967296] = x) := Lib.hid (by rw [val_two]; omega)
  have hl : Hid ((digs x).length ≤ 2) := Lib.hid (digs_length_le (k := 2) (by show x < 18446744073709551616; omega))
  go_enter Tryd.func54, Tryd.ntmps54
  go_wp2_with fail
  refine (trim_any _ [x % 4294967296, x / 4294967296] 2 2 _ _ (hb.rd hw) rfl (by omega) (by omega)).mono ?_
  rintro e w' ⟨rfl, rfl⟩
  go_wp2_with fail
  go_ret
  refine ⟨_, _, ret_slice (by rw [hv.out]), hl.out, ?_, (Below.refl _ _).alloc (Nat.le_refl _) _⟩
  have := (hb.rd hw).digs
  rw [hv.out] at this; exact this

/-! ### Of: an int as an integer. -/
set_option maxHeartbeats 800000 in
theorem of_any (z : Int) (w : World) (h1 : -9223372036854775808 ≤ z) (h2 : z ≤ 9223372036854775807) :
    Calls Tryd.prog 26 #[.int .i64 z] w (ZOut w z) := by
  by_cases h0 : z < 0
  · obtain ⟨D, N, hD, hN, hNz, hNl, hDl⟩ := wrap_neg h1 h0
    have HN := Lib.hid hNz
    clear hNz
    have hz : Hid (z = if true then -(N : Int) else (N : Int)) := Lib.hid (by rw [HN.out]; rfl)
    go_enter Tryd.func26, Tryd.ntmps26
    go_wp2_with fail
    refine (split_any N _ (by omega)).mono ?_
    rintro e w1 ⟨A1, c1, rfl, hc1, hr1, hb1⟩
    obtain ⟨t1, hs1, hb2⟩ := box1 hb1
    go_wp2_with fail
    refine (signed_any true A1 N _ c1 _ z _ hr1 (Nat.le_refl _) rfl hc1 hz.out).mono ?_
    rintro e w2 ⟨A2, c2, rfl, hc2, hr2, hb3⟩
    have T2 := t1.next hb3
    obtain ⟨d0, d1, g0, g1⟩ := T2.facts
    go_wp2_with fail
    refine bodyPost_ret (v := .agg #[.bool (sg z), .slice A2 (mg z).length c2]) (by simp [results, Tryd.results26, go_sem, d0, d1]) rfl ?_
    exact zout_put T2 hr2 hb3.size hc2 (below_next hb2 hb3 (by omega)) (Nat.le_refl _)
  · obtain ⟨N, rfl⟩ := Int.eq_ofNat_of_zero_le (show 0 ≤ z by omega)
    go_enter Tryd.func26, Tryd.ntmps26
    go_wp2_with fail
    refine (split_any N _ (by omega)).mono ?_
    rintro e w1 ⟨A1, c1, rfl, hc1, hr1, hb1⟩
    obtain ⟨t1, hs1, hb2⟩ := box1 hb1
    go_wp2_with fail
    refine (signed_any false A1 N _ c1 _ (N : Int) _ hr1 (Nat.le_refl _) rfl hc1 rfl).mono ?_
    rintro e w2 ⟨A2, c2, rfl, hc2, hr2, hb3⟩
    have T2 := t1.next hb3
    obtain ⟨d0, d1, g0, g1⟩ := T2.facts
    go_wp2_with fail
    refine bodyPost_ret (v := .agg #[.bool (sg (N : Int)), .slice A2 (mg (N : Int)).length c2]) (by simp [results, Tryd.results26, go_sem, d0, d1]) rfl ?_
    exact zout_put T2 hr2 hb3.size hc2 (below_next hb2 hb3 (by omega)) (Nat.le_refl _)
end Go.Proofs.YtgpckcikkppfjaaDoor
