/- Walks of the reference of layer 1: Int, Sign, Bits. -/
import Derived.Test.YtajlehaminddiaaDoorRefs
namespace Lw
open Go
/-- How often a number can be halved. -/
def hv : Nat → Nat → Nat
  | 0, _ => 0
  | f + 1, x => if x = 0 then 0 else hv f (x / 2) + 1
theorem hv_bitLen (f x : Nat) : hv f x = Lib.bitLenAux f x := by
  induction f generalizing x with
  | zero => rfl
  | succ f ih => unfold hv Lib.bitLenAux; rw [ih]; split <;> omega
theorem hv_zero (f : Nat) : hv f 0 = 0 := by cases f <;> simp [hv]
theorem hv_step {f x : Nat} (h : x < 2 ^ f) (h0 : x ≠ 0) : ∃ f', f = f' + 1 ∧ hv f x = hv f' (x / 2) + 1 ∧ x / 2 < 2 ^ f' := by
  cases f with
  | zero => simp at h; omega
  | succ f => exact ⟨f, rfl, by rw [hv, if_neg h0], by rw [Nat.pow_succ] at h; omega⟩
end Lw
namespace Go.Proofs.YtajlehaminddiaaDoor
open Go Go.RowKit Lw
set_option maxRecDepth 100000 in
set_option maxHeartbeats 1600000 in
theorem refint_any (s : Bool) (A : Option Addr) (ns : List Nat) (n c B : Nat) (w : World) (h : Rd w B A ns) (hB : B ≤ w.heap.size) (hn : ns.length = n) (hl : n ≤ 16777216) (hc : n ≤ c) :
    Calls Tryd.prog 14 #[.agg #[.bool s, .slice A n c]] w fun e w' => e = .returned (.tuple #[.int .i64 (intV (zv s ns)), .bool (fits (zv s ns))]) ∧ Below w.heap.size w w' := by
  have hlz := zv_len (s := s) h.wds
  rw [hn] at hlz
  have hk := fun W hR hB' => mag_any s A ns n c B W hR hB' hn hl hc
  have hk' := fun W hR hB' => refneg_any s A ns n c B W hR hB' hn hl
  generalize zv s ns = z at *
  have Hk := Lib.hid hk
  have Hk' := Lib.hid hk'
  clear hk hk'
  go_enter Tryd.func14, Tryd.ntmps14
  go_wp2_with fail
  refine (Hk.out _ (h.alloc hB _) (by simp; omega)).mono ?_
  rintro e w1 ⟨A1, c1, rfl, hc1, hr1, hb1⟩
  obtain ⟨t1, hs1, hb2⟩ := box1 hb1
  obtain ⟨c10, c11, f10, f11⟩ := t1.facts
  by_cases h2 : 2 < (mg z).length
  · have hf := fits_no (z := z) (by have := mg_len_gt h2; omega)
    have HF := Lib.hid hf
    clear hf
    go_wp2_with fail
    go_ret2
    exact ⟨ret_pair HF.out.2.symm HF.out.1.symm, hb2⟩
  · have HL := Lib.hid (mg_low (z := z) (by omega))
    have e0 := dg_lt (mg_wds z) 0
    have e1 := dg_lt (mg_wds z) 1
    have hlow := low_lt (mg_wds z)
    rw [HL.out] at hlow
    have HO : bits .or .u64 (dg (mg z) 0 : Int) ((dg (mg z) 1 : Int) * 4294967296) = (z.natAbs : Int) := by
      rw [or_words' e1 e0, ← HL.out, lo_succ, lo_succ, lo_zero]; simp [pw]
    go_wp2_with fail
    refine (at_any A1 (mg z) _ c1 B 0 _ hr1 rfl (by omega)).mono ?_
    rintro e w2 ⟨rfl, rfl⟩
    go_wp2_with fail
    refine (at_any A1 (mg z) _ c1 B 1 _ hr1 rfl (by omega)).mono ?_
    rintro e w2 ⟨rfl, rfl⟩
    go_wp2_with fail
    refine (Hk'.out _ (h.below (hb2.mono hB)) (by omega)).mono ?_
    rintro e w2 ⟨rfl, hb3⟩
    have hb4 := below_next hb2 hb3 (by omega)
    obtain ⟨d10, d11, g10, g11⟩ := (t1.next hb3).facts
    have hsz3 := hb3.size
    cases hsg : sg z
    · go_wp2_with fail
      refine (Hk'.out _ (h.below (hb4.mono hB)) (by omega)).mono ?_
      rintro e w3 ⟨rfl, hb5⟩
      rw [hsg]
      have hb6 := below_next hb4 hb5 (by omega)
      by_cases h3 : (9223372036854775808 : Int) ≤ (z.natAbs : Int)
      · have hf := fits_no (z := z) (by have := sg_false hsg; omega)
        have HF := Lib.hid hf
        clear hf
        have h5 : ((z.natAbs : Int) < (9223372036854775808 : Int)) = False := eq_false (by omega)
        go_wp2_with fail
        go_ret2
        exact ⟨ret_pair HF.out.2.symm HF.out.1.symm, hb6⟩
      · have hf := fits_yes (z := z) (by have := sg_false hsg; omega)
        have HF := Lib.hid hf
        have HZ := Lib.hid (sg_false hsg)
        clear hf
        have h5 : ((z.natAbs : Int) < (9223372036854775808 : Int)) = True := eq_true (by omega)
        have h6 : (z.natAbs : Int) ≤ 9223372036854775807 := by omega
        clear h3
        go_wp2_with fail
        go_ret2
        exact ⟨ret_pair (by rw [HF.out.2]; exact HZ.out.symm) HF.out.1.symm, hb6⟩
    · by_cases h3 : z.natAbs ≤ 9223372036854775808
      · have hf := fits_yes (z := z) (by have := sg_true hsg; omega)
        have HF := Lib.hid hf
        have HZ := Lib.hid (sg_true hsg).1
        obtain ⟨D, hD, hD2, hDl⟩ := neg_int (sg_true hsg).2 h3
        clear hf
        go_wp2_with fail
        go_ret2
        exact ⟨ret_pair (by rw [HF.out.2]; exact HZ.out.symm) HF.out.1.symm, hb4⟩
      · have hf := fits_no (z := z) (by have := sg_true hsg; omega)
        have HF := Lib.hid hf
        clear hf
        go_wp2_with fail
        refine (Hk'.out _ (h.below (hb4.mono hB)) (by omega)).mono ?_
        rintro e w3 ⟨rfl, hb5⟩
        rw [hsg]
        have hb6 := below_next hb4 hb5 (by omega)
        go_wp2_with fail
        go_ret2
        exact ⟨ret_pair HF.out.2.symm HF.out.1.symm, hb6⟩

set_option maxHeartbeats 1600000 in
theorem refsign_any (s : Bool) (A : Option Addr) (ns : List Nat) (n c B : Nat) (w : World) (h : Rd w B A ns) (hB : B ≤ w.heap.size) (hn : ns.length = n) (hl : n ≤ 16777216) (hc : n ≤ c) :
    Calls Tryd.prog 21 #[.agg #[.bool s, .slice A n c]] w fun e w' => e = .returned (.int .i64 (signI (zv s ns))) ∧ Below w.heap.size w w' := by
  have hlz := zv_len (s := s) h.wds
  rw [hn] at hlz
  have hk := fun W hR hB' => mag_any s A ns n c B W hR hB' hn hl hc
  have hk' := fun W hR hB' => refneg_any s A ns n c B W hR hB' hn hl
  generalize zv s ns = z at *
  have Hk := Lib.hid hk
  have Hk' := Lib.hid hk'
  clear hk hk'
  go_enter Tryd.func21, Tryd.ntmps21
  go_wp2_with fail
  refine (Hk.out _ (h.alloc hB _) (by simp; omega)).mono ?_
  rintro e w1 ⟨A1, c1, rfl, hc1, hr1, hb1⟩
  obtain ⟨t1, hs1, hb2⟩ := box1 hb1
  obtain ⟨c10, c11, f10, f11⟩ := t1.facts
  by_cases h0 : (mg z).length = 0
  · have HZ : Hid (0 = signI z) := Lib.hid (by rw [mg_nil_iff.1 h0]; rfl)
    have hbq : (((mg z).length : Int) == 0) = true := by rw [beq_iff_eq]; omega
    clear h0
    go_wp2_with fail
    go_ret
    exact ⟨ret_int HZ.out, hb2⟩
  · have hne : z ≠ 0 := fun e => h0 (mg_nil_iff.2 e)
    have hbq : (((mg z).length : Int) == 0) = false := by rw [beq_eq_false_iff_ne]; omega
    have H0 := Lib.hid hne
    clear h0 hne
    go_wp2_with fail
    refine (Hk'.out _ (h.below (hb2.mono hB)) (by omega)).mono ?_
    rintro e w2 ⟨rfl, hb3⟩
    have hb4 := below_next hb2 hb3 (by omega)
    cases hsg : sg z
    · have HZ : Hid (1 = signI z) := Lib.hid (by have := sg_false hsg; have := H0.out; unfold signI; rw [if_neg (by omega), if_neg (by omega)])
      go_wp2_with fail
      go_ret
      exact ⟨ret_int HZ.out, hb4⟩
    · have HZ : Hid (-1 = signI z) := Lib.hid (by have := sg_true hsg; unfold signI; rw [if_pos (by omega)])
      go_wp2_with fail
      go_ret
      exact ⟨ret_int HZ.out, hb4⟩

set_option maxHeartbeats 1600000 in
theorem refbits_any (A : Option Addr) (ns : List Nat) (n c B : Nat) (w : World) (h : Rd w B A ns) (hn : ns.length = n) (hl : n ≤ 16777216) :
    Calls Tryd.prog 55 #[.slice A n c] w fun e w' => e = .returned (.int .i64 (nbits ns)) ∧ w = w' := by
  have Hn := Lib.hid hn
  clear hn
  by_cases h0 : n = 0
  · have HN : Hid (0 = nbits ns) := Lib.hid (by unfold nbits; rw [if_pos (by rw [Hn.out]; exact h0)])
    subst h0
    go_enter Tryd.func55, Tryd.ntmps55
    go_wp2_with fail
    go_ret
    exact ⟨ret_int (by rw [← HN.out]; rfl), rfl⟩
  · obtain ⟨b, off, rfl, hb, hcell, hlt⟩ := h.at_ (k := n - 1) (by rw [Hn.out]; omega)
    have hbq : ((n : Int) == 0) = false := by rw [beq_eq_false_iff_ne]; omega
    have hx0 := hlt
    have hbl := bitLen_32 hlt
    have HN : Hid ((n - 1) * 32 + Lib.bitLen (dg ns (n - 1)) = nbits ns) := Lib.hid (by unfold nbits; rw [if_neg (by rw [Hn.out]; exact h0), Hn.out])
    generalize dg ns (n - 1) = X at *
    have hX : Hid (hv 64 X = Lib.bitLen X) := Lib.hid (hv_bitLen 64 X)
    go_enter Tryd.func55, Tryd.ntmps55
    go_wp2_with fail
    go_loop [3, 4] (fun v i => ∃ f x k : Nat, Hid (x < 2 ^ f) ∧ x < 4294967296 ∧ i = .int .u32 x ∧ v = .int .i64 (32 * ((n : Int) - 1) + (k : Int)) ∧ k ≤ 64 ∧ Hid (k + hv f x = Lib.bitLen X) ∧ k + f = 64) (fun _ i => (intOf i).toNat)
    case atStart => exact ⟨64, X, 0, Lib.hid (by omega), hx0, rfl, by go_num, by omega, Lib.hid (by rw [Nat.zero_add]; exact hX.out), rfl⟩
    case round =>
      obtain ⟨f, x, k, hxf, hx, rfl, rfl, hk, hv1, hkf⟩ := hrel
      by_cases hx1 : x = 0
      · subst hx1
        have HE : Hid (k = Lib.bitLen X) := Lib.hid (by rw [← hv1.out, hv_zero]; rfl)
        go_wp2_with fail
        go_ret
        exact ⟨ret_int (by rw [← HN.out, ← HE.out]; omega), rfl⟩
      · obtain ⟨f', rfl, hs, hs2⟩ := hv_step hxf.out hx1
        have HS := Lib.hid hs
        have HS2 : Hid (x / 2 < 2 ^ f') := Lib.hid hs2
        clear hs hs2 hxf
        go_wp2_with fail
        go_round
        case rel => exact ⟨f', x / 2, k + 1, HS2, by omega, by go_num, by go_num, by omega, Lib.hid (by have := hv1.out; rw [HS.out] at this; omega), by omega⟩
        case measure => simp [intOf]; omega

set_option maxRecDepth 100000 in
set_option maxHeartbeats 1600000 in
theorem refBits_any (s : Bool) (A : Option Addr) (ns : List Nat) (n c B : Nat) (w : World) (h : Rd w B A ns) (hB : B ≤ w.heap.size) (hn : ns.length = n) (hl : n ≤ 16777216) (hc : n ≤ c) :
    Calls Tryd.prog 23 #[.agg #[.bool s, .slice A n c]] w fun e w' => e = .returned (.int .i64 (nbits (mg (zv s ns)))) ∧ Below w.heap.size w w' := by
  have hlz := zv_len (s := s) h.wds
  rw [hn] at hlz
  have hk := fun W hR hB' => mag_any s A ns n c B W hR hB' hn hl hc
  generalize zv s ns = z at *
  have Hk := Lib.hid hk
  clear hk
  go_enter Tryd.func23, Tryd.ntmps23
  go_wp2_with fail
  refine (Hk.out _ (h.alloc hB _) (by simp; omega)).mono ?_
  rintro e w1 ⟨A1, c1, rfl, hc1, hr1, hb1⟩
  obtain ⟨t1, hs1, hb2⟩ := box1 hb1
  go_wp2_with fail
  refine (refbits_any A1 (mg z) _ c1 B _ hr1 rfl (by omega)).mono ?_
  rintro e w2 ⟨rfl, rfl⟩
  go_wp2_with fail
  go_ret
  exact ⟨rfl, hb2⟩
end Go.Proofs.YtajlehaminddiaaDoor
