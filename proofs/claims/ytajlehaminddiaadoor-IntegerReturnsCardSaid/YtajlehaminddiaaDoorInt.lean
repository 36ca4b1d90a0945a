/- Walks of integer: Int, Sign, Bits. -/
import Derived.Test.YtajlehaminddiaaDoorSplit
namespace Lw
open Go
def fits (z : Int) : Bool := decide (-9223372036854775808 ≤ z ∧ z ≤ 9223372036854775807)
def intV (z : Int) : Int := if fits z then z else 0
theorem fits_yes {z : Int} (h : -9223372036854775808 ≤ z ∧ z ≤ 9223372036854775807) : fits z = true ∧ intV z = z := by
  have : fits z = true := by unfold fits; simpa using h
  exact ⟨this, by unfold intV; rw [this]; rfl⟩
theorem fits_no {z : Int} (h : ¬ (-9223372036854775808 ≤ z ∧ z ≤ 9223372036854775807)) : fits z = false ∧ intV z = 0 := by
  have : fits z = false := by unfold fits; simp only [decide_eq_false_iff_not]; exact h
  exact ⟨this, by unfold intV; rw [this]; rfl⟩
theorem mg_len_gt {z : Int} (h : 2 < (mg z).length) : 18446744073709551616 ≤ z.natAbs := by
  have := pw_le_val (mg_trm z) (by intro e; rw [e] at h; simp at h)
  rw [val_mg] at this
  have h2 : pw 2 ≤ pw ((mg z).length - 1) := pw_le (by omega)
  have h3 : pw 2 = 18446744073709551616 := rfl
  omega
theorem mg_low {z : Int} (h : (mg z).length ≤ 2) : lo (mg z) 2 = z.natAbs := by rw [lo_all h, val_mg]
theorem low_lt {l : List Nat} (h : Wds l) : lo l 2 ≤ 18446744073709551615 := by have := lo_lt h 2; have h3 : pw 2 = 18446744073709551616 := rfl; omega
theorem sg_true {z : Int} (h : sg z = true) : z = -(z.natAbs : Int) ∧ 0 < z.natAbs := by unfold sg at h; simp at h; omega
theorem sg_false {z : Int} (h : sg z = false) : z = (z.natAbs : Int) := by unfold sg at h; simp at h; omega
/-- '-size' of an uint64, as an int. -/
theorem neg_int {N : Nat} (h0 : 0 < N) (h : N ≤ 9223372036854775808) : ∃ D : Nat, IntKind.u64.wrap (-(N : Int)) = (D : Int) ∧ IntKind.i64.wrap (D : Int) = -(N : Int) ∧ D ≤ 18446744073709551615 := by
  refine ⟨18446744073709551616 - N, ?_, ?_, by omega⟩
  · rw [IntKind.wrap_u64]; omega
  · rw [IntKind.wrap_i64]; omega
end Lw
namespace Go.Proofs.YtajlehaminddiaaDoor
open Go Go.RowKit Lw
theorem ret_pair {k : IntKind} {a b : Int} {p q : Bool} (h : a = b) (h' : p = q) : Ending.returned (.tuple #[.int k a, .bool p]) = Ending.returned (.tuple #[.int k b, .bool q]) := by rw [h, h']
set_option maxRecDepth 100000 in
set_option maxHeartbeats 1600000 in
theorem int_any (s : Bool) (A : Option Addr) (ns : List Nat) (n c B : Nat) (w : World) (h : Rd w B A ns) (hB : B ≤ w.heap.size) (hn : ns.length = n) (hl : n ≤ 16777216) (hc : n ≤ c) :
    Calls Tryd.prog 13 #[.agg #[.bool s, .slice A n c]] w fun e w' => e = .returned (.tuple #[.int .i64 (intV (zv s ns)), .bool (fits (zv s ns))]) ∧ Below w.heap.size w w' := by
  have hlz := zv_len (s := s) h.wds
  rw [hn] at hlz
  have hk := fun W hR hB' => known_any s A ns n c B W hR hB' hn hl hc
  generalize zv s ns = z at *
  have Hk := Lib.hid hk
  clear hk
  go_enter Tryd.func13, Tryd.ntmps13
  go_wp2_with fail
  refine (Hk.out _ (h.alloc hB _) (by simp; omega)).mono ?_
  rintro e w1 ⟨A1, c1, rfl, hc1, hr1, hb1⟩
  obtain ⟨t1, hs1, hb2⟩ := box1 hb1
  have T1 := t1.put (.bool (sg z)) (.slice A1 (mg z).length c1)
  have R1 := hr1.putTwo t1 (sg z) (.slice A1 (mg z).length c1)
  have hb3 := (hb2.setCell (p := ⟨w.heap.size, 0, none⟩) (Nat.le_refl _) (.bool (sg z))).setCell (p := ⟨w.heap.size, 1, none⟩) (Nat.le_refl _) (.slice A1 (mg z).length c1)
  obtain ⟨c10, c11, f10, f11⟩ := t1.facts
  obtain ⟨d10, d11, g10, g11⟩ := T1.facts
  by_cases h2 : 2 < (mg z).length
  · have hf := fits_no (z := z) (by have := mg_len_gt h2; omega)
    have HF := Lib.hid hf
    clear hf
    go_wp2_with fail
    go_ret2
    exact ⟨ret_pair HF.out.2.symm HF.out.1.symm, hb3⟩
  · have HL := Lib.hid (mg_low (z := z) (by omega))
    have hlow := low_lt (mg_wds z)
    rw [HL.out] at hlow
    go_wp2_with fail
    refine (low_any A1 (mg z) _ c1 B _ R1 rfl (by omega)).mono ?_
    rintro e w2 ⟨rfl, rfl⟩
    rw [HL.out]
    cases hsg : sg z
    · by_cases h3 : (9223372036854775808 : Int) ≤ (z.natAbs : Int)
      · have hf := fits_no (z := z) (by have := sg_false hsg; omega)
        have HF := Lib.hid hf
        clear hf
        go_wp2_with fail
        go_ret2
        exact ⟨ret_pair HF.out.2.symm HF.out.1.symm, by rw [hsg] at hb3; exact hb3⟩
      · have hf := fits_yes (z := z) (by have := sg_false hsg; omega)
        have HF := Lib.hid hf
        have HZ := Lib.hid (sg_false hsg)
        clear hf
        have h5 : ((9223372036854775808 : Int) ≤ (z.natAbs : Int)) = False := eq_false h3
        have h6 : (z.natAbs : Int) ≤ 9223372036854775807 := by omega
        clear h3
        go_wp2_with fail
        go_ret2
        exact ⟨ret_pair (by rw [HF.out.2]; exact HZ.out.symm) HF.out.1.symm, by rw [hsg] at hb3; exact hb3⟩
    · by_cases h3 : z.natAbs ≤ 9223372036854775808
      · have hf := fits_yes (z := z) (by have := sg_true hsg; omega)
        have HF := Lib.hid hf
        have HZ := Lib.hid (sg_true hsg).1
        obtain ⟨D, hD, hD2, hDl⟩ := neg_int (sg_true hsg).2 h3
        clear hf
        go_wp2_with fail
        go_ret2
        exact ⟨ret_pair (by rw [HF.out.2]; exact HZ.out.symm) HF.out.1.symm, by rw [hsg] at hb3; exact hb3⟩
      · have hf := fits_no (z := z) (by have := sg_true hsg; omega)
        have HF := Lib.hid hf
        clear hf
        go_wp2_with fail
        go_ret2
        exact ⟨ret_pair HF.out.2.symm HF.out.1.symm, by rw [hsg] at hb3; exact hb3⟩
end Go.Proofs.YtajlehaminddiaaDoor
