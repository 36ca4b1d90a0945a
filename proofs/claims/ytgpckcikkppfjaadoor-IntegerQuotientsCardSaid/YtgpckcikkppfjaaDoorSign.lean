/- Walks of integer: Sign, bitsOf, Bits. -/
import Derived.Test.YtgpckcikkppfjaaDoorInt
import Derived.Test.YtgpckcikkppfjaaDoorShelf
import Derived.Lib.BitFns
namespace Lw
open Go
def signI (z : Int) : Int := if z < 0 then -1 else if z = 0 then 0 else 1
/-- The number of bits of a trimmed list. -/
def nbits (l : List Nat) : Nat := if l.length = 0 then 0 else (l.length - 1) * 32 + Lib.bitLen (dg l (l.length - 1))
theorem bitLen_32 {x : Nat} (h : x < 4294967296) : Lib.bitLen x ≤ 32 := Lib.bitLen_le x 32 (by omega) (by simpa using h)
theorem mg_nil_iff {z : Int} : (mg z).length = 0 ↔ z = 0 := by
  rw [List.length_eq_zero_iff]; unfold mg; rw [digs_eq_nil]; omega
end Lw
namespace Go.Proofs.YtgpckcikkppfjaaDoor
open Go Go.RowKit Lw
set_option maxHeartbeats 1600000 in
theorem sign_any (s : Bool) (A : Option Addr) (ns : List Nat) (n c B : Nat) (w : World) (h : Rd w B A ns) (hB : B ≤ w.heap.size) (hn : ns.length = n) (hl : n ≤ 16777216) (hc : n ≤ c) :
    Calls Tryd.prog 20 #[.agg #[.bool s, .slice A n c]] w fun e w' => e = .returned (.int .i64 (signI (zv s ns))) ∧ Below w.heap.size w w' := by
  have hlz := zv_len (s := s) h.wds
  rw [hn] at hlz
  have hk := fun W hR hB' => known_any s A ns n c B W hR hB' hn hl hc
  generalize zv s ns = z at *
  have Hk := Lib.hid hk
  clear hk
  go_enter Tryd.func20, Tryd.ntmps20
  go_wp2_with fail
  refine (Hk.out _ (h.alloc hB _) (by simp; omega)).mono ?_
  rintro e w1 ⟨A1, c1, rfl, hc1, hr1, hb1⟩
  obtain ⟨t1, hs1, hb2⟩ := box1 hb1
  have hb3 : ∀ u v, Below w.heap.size w ((w1.setCell ⟨w.heap.size, 0, none⟩ u).setCell ⟨w.heap.size, 1, none⟩ v) := fun u v => (hb2.setCell (p := ⟨w.heap.size, 0, none⟩) (Nat.le_refl _) u).setCell (p := ⟨w.heap.size, 1, none⟩) (Nat.le_refl _) v
  have HB := Lib.hid hb3
  clear hb3
  obtain ⟨c10, c11, f10, f11⟩ := t1.facts
  by_cases h0 : (mg z).length = 0
  · have HZ : Hid (0 = signI z) := Lib.hid (by rw [mg_nil_iff.1 h0]; rfl)
    have hbq : (((mg z).length : Int) == 0) = true := by rw [beq_iff_eq]; omega
    have H0 := Lib.hid h0
    clear h0
    go_wp2_with fail
    go_ret
    exact ⟨ret_int HZ.out, HB.out _ _⟩
  · have hne : z ≠ 0 := fun e => h0 (mg_nil_iff.2 e)
    have hbq : (((mg z).length : Int) == 0) = false := by rw [beq_eq_false_iff_ne]; omega
    have H0 := Lib.hid hne
    clear h0 hne
    cases hsg : sg z
    · have HZ : Hid (1 = signI z) := Lib.hid (by have := sg_false hsg; have := H0.out; unfold signI; rw [if_neg (by omega), if_neg (by omega)])
      go_wp2_with fail
      go_ret
      exact ⟨ret_int HZ.out, HB.out _ _⟩
    · have HZ : Hid (-1 = signI z) := Lib.hid (by have := sg_true hsg; unfold signI; rw [if_pos (by omega)])
      go_wp2_with fail
      go_ret
      exact ⟨ret_int HZ.out, HB.out _ _⟩

set_option maxHeartbeats 1600000 in
theorem bitsOf_any (A : Option Addr) (ns : List Nat) (n c B : Nat) (w : World) (h : Rd w B A ns) (hn : ns.length = n) (hl : n ≤ 16777216) :
    Calls Tryd.prog 62 #[.slice A n c] w fun e w' => e = .returned (.int .i64 (nbits ns)) ∧ w = w' := by
  have Hn := Lib.hid hn
  clear hn
  by_cases h0 : n = 0
  · have HN : Hid (0 = nbits ns) := Lib.hid (by unfold nbits; rw [if_pos (by rw [Hn.out]; exact h0)])
    subst h0
    go_enter Tryd.func62, Tryd.ntmps62
    go_wp2_with fail
    go_ret
    exact ⟨ret_int (by rw [← HN.out]; rfl), rfl⟩
  · obtain ⟨b, off, rfl, hb, hcell, hlt⟩ := h.at_ (k := n - 1) (by rw [Hn.out]; omega)
    have hbq : ((n : Int) == 0) = false := by rw [beq_eq_false_iff_ne]; omega
    have hbl := bitLen_32 hlt
    have HN : Hid ((n - 1) * 32 + Lib.bitLen (dg ns (n - 1)) = nbits ns) := Lib.hid (by unfold nbits; rw [if_neg (by rw [Hn.out]; exact h0), Hn.out])
    go_enter Tryd.func62, Tryd.ntmps62
    go_wp2_with fail
    refine (Tryd.bits_Len32 _ _ (by omega) (by omega)).mono ?_
    rw [Int.toNat_natCast]
    rintro e w1 ⟨rfl, hw1⟩
    subst hw1
    go_wp2_with fail
    go_ret
    exact ⟨ret_int (by rw [← HN.out]; omega), rfl⟩

end Go.Proofs.YtgpckcikkppfjaaDoor
