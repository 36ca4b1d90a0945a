/- Walks of integer: divisor and root of numbers of at most two words. -/
import Derived.Test.YtobffffcihlkbaaDoorDivide
namespace Go.Proofs.YtobffffcihlkbaaDoor
open Go Go.RowKit Lw
set_option maxRecDepth 100000 in
set_option maxHeartbeats 1600000 in
theorem divisor_small (A A' : Option Addr) (N M n m c c' B B' : Nat) (w : World) (h : Rd w B A (digs N)) (h' : Rd w B' A' (digs M)) (hB : B ≤ w.heap.size) (hB' : B' ≤ w.heap.size)
    (hn : (digs N).length = n) (hm : (digs M).length = m) (hl : n ≤ 2) (hl' : m ≤ 2) (hc : n ≤ c) (hc' : m ≤ c') (hMN : M ≤ N) :
    Calls Tryd.prog 36 #[.slice A n c, .slice A' m c'] w (OutW w (Nat.gcd N M)) := by
  have vN := val_digs N
  have vM := val_digs M
  have Hn := Lib.hid hn
  have Hm := Lib.hid hm
  have VN := Lib.hid vN
  have VM := Lib.hid vM
  have hcm := cmpN_nonneg hMN
  clear hn hm vN vM
  go_enter Tryd.func36, Tryd.ntmps36
  go_wp2_with fail
  refine (compare_any A A' (digs N) (digs M) _ _ _ _ B B' _ h h' (trm_digs _) (trm_digs _) Hn.out Hm.out (by omega) (by omega)).mono ?_
  rintro e w1 ⟨rfl, q, rfl⟩
  rw [VN.out, VM.out]
  go_wp2_with fail
  refine wp_loop_rounds 1 ?_
  rw [rounds_succ]
  by_cases h0 : m = 0
  · subst h0
    have HM : Hid (Nat.gcd N M = N) := Lib.hid (by rw [digs_eq_nil.1 (List.eq_nil_of_length_eq_zero Hm.out), Nat.gcd_zero_right])
    go_wp2_with fail
    refine (clone_any A (digs N) _ _ B _ (h.drewN q) (by simpa using hB) Hn.out (by omega)).mono ?_
    rintro e w2 ⟨A1, c1, rfl, hc1, hg1, hr1, hb1⟩
    go_wp2_with fail
    go_ret
    rw [HM.out]
    exact ⟨A1, c1, ret_slice Hn.out.symm, by rw [Hn.out]; exact hc1, hr1, below_next (below_drewN' _ _ _) hb1 (Nat.le_refl _)⟩
  · have hbq : ((m : Int) == 0) = false := by rw [beq_eq_false_iff_ne]; omega
    have hM0 : M ≠ 0 := by intro e; subst e; exact h0 (by rw [← Hm.out]; rfl)
    have HM0 := Lib.hid hM0
    clear h0 hM0
    go_wp2_with fail
    refine (divide_of A A' N M _ _ c c' B B' _ (h.drewN q) (h'.drewN q) (by simpa using hB) (by simpa using hB') Hn.out Hm.out (by omega) (by omega) hc hc' HM0.out (.inl hl)).mono ?_
    rintro e w2 ⟨A3, c3, A4, c4, rfl, hc3, hc4, hr3, hr4, hb3⟩
    have hb4 := below_next (below_drewN' w.heap.size w q) hb3 (Nat.le_refl _)
    have hM2 : M ≤ 18446744073709551615 := by have := lt_of_digs_length (n := M) (k := 2) (by rw [Hm.out]; exact hl'); have h3 : pw 2 = 18446744073709551616 := rfl; omega
    have hR2 : N % M < M := Nat.mod_lt _ (by have := HM0.out; omega)
    have HG : Hid (Nat.gcd M (N % M) = Nat.gcd N M) := Lib.hid (by rw [Nat.gcd_comm N M, Nat.gcd_rec M N, Nat.gcd_comm])
    have hlR : (digs (N % M)).length ≤ 2 := Nat.le_trans (digs_length_le (k := 2) (by have h3 : pw 2 = 18446744073709551616 := rfl; omega)) (Nat.le_refl _)
    have HLo' : Hid (lo (digs M) 2 = M) := Lib.hid (by rw [lo_all (by rw [Hm.out]; exact hl'), VM.out])
    have HLoR : Hid (lo (digs (N % M)) 2 = N % M) := Lib.hid (by rw [lo_all hlR, val_digs])
    obtain ⟨R, hR⟩ : ∃ R, R = N % M := ⟨_, rfl⟩
    rw [← hR] at hr4 hc4 HG hlR HLoR hR2 ⊢
    clear hR
    obtain ⟨Q, hQ⟩ : ∃ Q, Q = N / M := ⟨_, rfl⟩
    rw [← hQ] at hr3 hc3 ⊢
    clear hQ
    go_wp2_with fail
    refine (low_any A' (digs M) _ c' B' _ (h'.below (hb4.mono hB')) Hm.out (by omega)).mono ?_
    rintro e w3 ⟨rfl, rfl⟩
    rw [HLo'.out]
    go_wp2_with fail
    refine (low_any A4 (digs R) _ c4 _ _ hr4 rfl (by omega)).mono ?_
    rintro e w3 ⟨rfl, rfl⟩
    rw [HLoR.out]
    go_wp2_with fail
    refine (smallDivisor_any M R _ hM2 (by omega)).mono ?_
    rintro e w3 ⟨rfl, q3, rfl⟩
    rw [HG.out]
    have hgl : Nat.gcd N M ≤ 18446744073709551615 := Nat.le_trans (Nat.gcd_le_right _ (by have := HM0.out; omega)) hM2
    generalize Nat.gcd N M = G at *
    go_wp2_with fail
    refine (split_any G _ hgl).mono ?_
    rintro e w5 ⟨A5, c5, rfl, hc5, hr5, hb5⟩
    go_wp2_with fail
    go_ret
    exact ⟨A5, c5, rfl, hc5, hr5, below_next (hb4.trans (below_drewN' _ _ _)) hb5 (by simp)⟩

set_option maxRecDepth 100000 in
set_option maxHeartbeats 1600000 in
theorem divisor_swap (A A' : Option Addr) (N M n m c c' B B' : Nat) (w : World) (h : Rd w B A (digs N)) (h' : Rd w B' A' (digs M)) (hB : B ≤ w.heap.size) (hB' : B' ≤ w.heap.size)
    (hn : (digs N).length = n) (hm : (digs M).length = m) (hl : n ≤ 2) (hl' : m ≤ 2) (hc : n ≤ c) (hc' : m ≤ c') (hMN : M < N) :
    Calls Tryd.prog 36 #[.slice A' m c', .slice A n c] w (OutW w (Nat.gcd N M)) := by
  have vN := val_digs N
  have vM := val_digs M
  have Hn := Lib.hid hn
  have Hm := Lib.hid hm
  have VN := Lib.hid vN
  have VM := Lib.hid vM
  have hcm := cmpN_neg hMN
  clear hn hm vN vM
  go_enter Tryd.func36, Tryd.ntmps36
  go_wp2_with fail
  refine (compare_any A' A (digs M) (digs N) _ _ _ _ B' B _ h' h (trm_digs _) (trm_digs _) Hm.out Hn.out (by omega) (by omega)).mono ?_
  rintro e w1 ⟨rfl, q, rfl⟩
  rw [VM.out, VN.out]
  go_wp2_with fail
  refine wp_loop_rounds 1 ?_
  rw [rounds_succ]
  by_cases h0 : m = 0
  · subst h0
    have HM : Hid (Nat.gcd N M = N) := Lib.hid (by rw [digs_eq_nil.1 (List.eq_nil_of_length_eq_zero Hm.out), Nat.gcd_zero_right])
    go_wp2_with fail
    refine (clone_any A (digs N) _ _ B _ (h.drewN q) (by simpa using hB) Hn.out (by omega)).mono ?_
    rintro e w2 ⟨A1, c1, rfl, hc1, hg1, hr1, hb1⟩
    go_wp2_with fail
    go_ret
    rw [HM.out]
    exact ⟨A1, c1, ret_slice Hn.out.symm, by rw [Hn.out]; exact hc1, hr1, below_next (below_drewN' _ _ _) hb1 (Nat.le_refl _)⟩
  · have hbq : ((m : Int) == 0) = false := by rw [beq_eq_false_iff_ne]; omega
    have hM0 : M ≠ 0 := by intro e; subst e; exact h0 (by rw [← Hm.out]; rfl)
    have HM0 := Lib.hid hM0
    clear h0 hM0
    go_wp2_with fail
    refine (divide_of A A' N M _ _ c c' B B' _ (h.drewN q) (h'.drewN q) (by simpa using hB) (by simpa using hB') Hn.out Hm.out (by omega) (by omega) hc hc' HM0.out (.inl hl)).mono ?_
    rintro e w2 ⟨A3, c3, A4, c4, rfl, hc3, hc4, hr3, hr4, hb3⟩
    have hb4 := below_next (below_drewN' w.heap.size w q) hb3 (Nat.le_refl _)
    have hM2 : M ≤ 18446744073709551615 := by have := lt_of_digs_length (n := M) (k := 2) (by rw [Hm.out]; exact hl'); have h3 : pw 2 = 18446744073709551616 := rfl; omega
    have hR2 : N % M < M := Nat.mod_lt _ (by have := HM0.out; omega)
    have HG : Hid (Nat.gcd M (N % M) = Nat.gcd N M) := Lib.hid (by rw [Nat.gcd_comm N M, Nat.gcd_rec M N, Nat.gcd_comm])
    have hlR : (digs (N % M)).length ≤ 2 := Nat.le_trans (digs_length_le (k := 2) (by have h3 : pw 2 = 18446744073709551616 := rfl; omega)) (Nat.le_refl _)
    have HLo' : Hid (lo (digs M) 2 = M) := Lib.hid (by rw [lo_all (by rw [Hm.out]; exact hl'), VM.out])
    have HLoR : Hid (lo (digs (N % M)) 2 = N % M) := Lib.hid (by rw [lo_all hlR, val_digs])
    obtain ⟨R, hR⟩ : ∃ R, R = N % M := ⟨_, rfl⟩
    rw [← hR] at hr4 hc4 HG hlR HLoR hR2 ⊢
    clear hR
    obtain ⟨Q, hQ⟩ : ∃ Q, Q = N / M := ⟨_, rfl⟩
    rw [← hQ] at hr3 hc3 ⊢
    clear hQ
    go_wp2_with fail
    refine (low_any A' (digs M) _ c' B' _ (h'.below (hb4.mono hB')) Hm.out (by omega)).mono ?_
    rintro e w3 ⟨rfl, rfl⟩
    rw [HLo'.out]
    go_wp2_with fail
    refine (low_any A4 (digs R) _ c4 _ _ hr4 rfl (by omega)).mono ?_
    rintro e w3 ⟨rfl, rfl⟩
    rw [HLoR.out]
    go_wp2_with fail
    refine (smallDivisor_any M R _ hM2 (by omega)).mono ?_
    rintro e w3 ⟨rfl, q3, rfl⟩
    rw [HG.out]
    have hgl : Nat.gcd N M ≤ 18446744073709551615 := Nat.le_trans (Nat.gcd_le_right _ (by have := HM0.out; omega)) hM2
    generalize Nat.gcd N M = G at *
    go_wp2_with fail
    refine (split_any G _ hgl).mono ?_
    rintro e w5 ⟨A5, c5, rfl, hc5, hr5, hb5⟩
    go_wp2_with fail
    go_ret
    exact ⟨A5, c5, rfl, hc5, hr5, below_next (hb4.trans (below_drewN' _ _ _)) hb5 (by simp)⟩

set_option maxHeartbeats 1600000 in
theorem root_small (A : Option Addr) (N n c B : Nat) (w : World) (h : Rd w B A (digs N)) (_hB : B ≤ w.heap.size) (hn : (digs N).length = n) (hl : n ≤ 2) :
    Calls Tryd.prog 25 #[.slice A n c] w (OutW w (rt N)) := by
  have HL : Hid (lo (digs N) 2 = N) := Lib.hid (by rw [lo_all (by rw [hn]; exact hl), val_digs])
  have hN2 : N ≤ 18446744073709551615 := by have := lt_of_digs_length (n := N) (k := 2) (by rw [hn]; exact hl); have h3 : pw 2 = 18446744073709551616 := rfl; omega
  have Hn := Lib.hid hn
  clear hn
  have hrl : rt N ≤ 18446744073709551615 := by
    have := rt_le N
    rcases Nat.eq_zero_or_pos (rt N) with h0 | h0
    · omega
    · have := Nat.mul_le_mul_left (rt N) h0; omega
  have HRL := Lib.hid hrl
  clear hrl
  go_enter Tryd.func25, Tryd.ntmps25
  go_wp2_with fail
  refine (low_any A (digs N) _ c B _ h Hn.out (by omega)).mono ?_
  rintro e w2 ⟨rfl, rfl⟩
  rw [HL.out]
  go_wp2_with fail
  refine (smallRoot_any N _ hN2).mono ?_
  rintro e w3 ⟨rfl, rfl⟩
  go_wp2_with fail
  refine (split_any (rt N) _ HRL.out).mono ?_
  rintro e w5 ⟨A5, c5, rfl, hc5, hr5, hb5⟩
  go_wp2_with fail
  go_ret
  exact ⟨A5, c5, rfl, hc5, hr5, hb5⟩
end Go.Proofs.YtobffffcihlkbaaDoor
