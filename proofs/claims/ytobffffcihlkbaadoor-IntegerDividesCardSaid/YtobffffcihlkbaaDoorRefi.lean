/- Walks of the reference of layer 1: Int, Sign, Bits. -/
import Derived.Test.YtobffffcihlkbaaDoorRef
namespace Lw
open Go
/-- How often a number can be halved. -/
def hv : Nat → Nat → Nat
  | 0, _ => 0
  | f + 1, x => if x = 0 then 0 else hv f (x / 2) + 1
theorem hv_bitLen (f x : Nat) : hv f x = Lib.bitLenAux f x := by
  induction f generalizing x with
  | zero => rfl
  | succ f ih => unfold hv Lib.bitLenAux; rw [ih]; split <;> omega
theorem hv_zero (f : Nat) : hv f 0 = 0 := by cases f <;> simp [hv]
theorem hv_step {f x : Nat} (h : x < 2 ^ f) (h0 : x ≠ 0) : ∃ f', f = f' + 1 ∧ hv f x = hv f' (x / 2) + 1 ∧ x / 2 < 2 ^ f' := by
  cases f with
  | zero => simp at h; omega
  | succ f => exact ⟨f, rfl, by rw [hv, if_neg h0], by rw [Nat.pow_succ] at h; omega⟩
end Lw
namespace Go.Proofs.YtobffffcihlkbaaDoor
open Go Go.RowKit Lw
set_option maxHeartbeats 1600000 in
theorem refsign_any (s : Bool) (A : Option Addr) (ns : List Nat) (n c B : Nat) (w : World) (h : Rd w B A ns) (hB : B ≤ w.heap.size) (hn : ns.length = n) (hl : n ≤ 16777216) (hc : n ≤ c) :
    Calls Tryd.prog 26 #[.agg #[.bool s, .slice A n c]] w fun e w' => e = .returned (.int .i64 (signI (zv s ns))) ∧ Below w.heap.size w w' := by
  have hlz := zv_len (s := s) h.wds
  rw [hn] at hlz
  have hk := fun W hR hB' => mag_any s A ns n c B W hR hB' hn hl hc
  have hk' := fun W hR hB' => refneg_any s A ns n c B W hR hB' hn hl
  generalize zv s ns = z at *
  have Hk := Lib.hid hk
  have Hk' := Lib.hid hk'
  clear hk hk'
  go_enter Tryd.func26, Tryd.ntmps26
  go_wp2_with fail
  refine (Hk.out _ (h.alloc hB _) (by simp; omega)).mono ?_
  rintro e w1 ⟨A1, c1, rfl, hc1, hr1, hb1⟩
  obtain ⟨t1, hs1, hb2⟩ := box1 hb1
  obtain ⟨c10, c11, f10, f11⟩ := t1.facts
  by_cases h0 : (mg z).length = 0
  · have HZ : Hid (0 = signI z) := Lib.hid (by rw [mg_nil_iff.1 h0]; rfl)
    have hbq : (((mg z).length : Int) == 0) = true := by rw [beq_iff_eq]; omega
    clear h0
    go_wp2_with fail
    go_ret
    exact ⟨ret_int HZ.out, hb2⟩
  · have hne : z ≠ 0 := fun e => h0 (mg_nil_iff.2 e)
    have hbq : (((mg z).length : Int) == 0) = false := by rw [beq_eq_false_iff_ne]; omega
    have H0 := Lib.hid hne
    clear h0 hne
    go_wp2_with fail
    refine (Hk'.out _ (h.below (hb2.mono hB)) (by omega)).mono ?_
    rintro e w2 ⟨rfl, hb3⟩
    have hb4 := below_next hb2 hb3 (by omega)
    cases hsg : sg z
    · have HZ : Hid (1 = signI z) := Lib.hid (by have := sg_false hsg; have := H0.out; unfold signI; rw [if_neg (by omega), if_neg (by omega)])
      go_wp2_with fail
      go_ret
      exact ⟨ret_int HZ.out, hb4⟩
    · have HZ : Hid (-1 = signI z) := Lib.hid (by have := sg_true hsg; unfold signI; rw [if_pos (by omega)])
      go_wp2_with fail
      go_ret
      exact ⟨ret_int HZ.out, hb4⟩

set_option maxHeartbeats 1600000 in
theorem refbits_any (A : Option Addr) (ns : List Nat) (n c B : Nat) (w : World) (h : Rd w B A ns) (hn : ns.length = n) (hl : n ≤ 16777216) :
    Calls Tryd.prog 33 #[.slice A n c] w fun e w' => e = .returned (.int .i64 (nbits ns)) ∧ w = w' := by
  have Hn := Lib.hid hn
  clear hn
  by_cases h0 : n = 0
  · have HN : Hid (0 = nbits ns) := Lib.hid (by unfold nbits; rw [if_pos (by rw [Hn.out]; exact h0)])
    subst h0
    go_enter Tryd.func33, Tryd.ntmps33
    go_wp2_with fail
    go_ret
    exact ⟨ret_int (by rw [← HN.out]; rfl), rfl⟩
  · obtain ⟨b, off, rfl, hb, hcell, hlt⟩ := h.at_ (k := n - 1) (by rw [Hn.out]; omega)
    have hbq : ((n : Int) == 0) = false := by rw [beq_eq_false_iff_ne]; omega
    have hx0 := hlt
    have hbl := bitLen_32 hlt
    have HN : Hid ((n - 1) * 32 + Lib.bitLen (dg ns (n - 1)) = nbits ns) := Lib.hid (by unfold nbits; rw [if_neg (by rw [Hn.out]; exact h0), Hn.out])
    generalize dg ns (n - 1) = X at *
    have hX : Hid (hv 64 X = Lib.bitLen X) := Lib.hid (hv_bitLen 64 X)
    go_enter Tryd.func33, Tryd.ntmps33
    go_wp2_with fail
    go_loop [3, 4] (fun v i => ∃ f x k : Nat, Hid (x < 2 ^ f) ∧ x < 4294967296 ∧ i = .int .u32 x ∧ v = .int .i64 (32 * ((n : Int) - 1) + (k : Int)) ∧ k ≤ 64 ∧ Hid (k + hv f x = Lib.bitLen X) ∧ k + f = 64) (fun _ i => (intOf i).toNat)
    case atStart => exact ⟨64, X, 0, Lib.hid (by omega), hx0, rfl, by go_num, by omega, Lib.hid (by rw [Nat.zero_add]; exact hX.out), rfl⟩
    case round =>
      obtain ⟨f, x, k, hxf, hx, rfl, rfl, hk, hv1, hkf⟩ := hrel
      by_cases hx1 : x = 0
      · subst hx1
        have HE : Hid (k = Lib.bitLen X) := Lib.hid (by rw [← hv1.out, hv_zero]; rfl)
        go_wp2_with fail
        go_ret
        exact ⟨ret_int (by rw [← HN.out, ← HE.out]; omega), rfl⟩
      · obtain ⟨f', rfl, hs, hs2⟩ := hv_step hxf.out hx1
        have HS := Lib.hid hs
        have HS2 : Hid (x / 2 < 2 ^ f') := Lib.hid hs2
        clear hs hs2 hxf
        go_wp2_with fail
        go_round
        case rel => exact ⟨f', x / 2, k + 1, HS2, by omega, by go_num, by go_num, by omega, Lib.hid (by have := hv1.out; rw [HS.out] at this; omega), by omega⟩
        case measure => simp [intOf]; omega

end Go.Proofs.YtobffffcihlkbaaDoor
