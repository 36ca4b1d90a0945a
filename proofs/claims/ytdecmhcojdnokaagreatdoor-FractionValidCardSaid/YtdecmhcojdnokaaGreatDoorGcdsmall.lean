/- Walks of integer: divisor and root of numbers of at most two words. -/
import Derived.Test.YtdecmhcojdnokaaGreatDoorDivw
import Derived.Deep.RegionWith
import Derived.Deep.DeepCutAuto
namespace Go.Proofs.YtdecmhcojdnokaaGreatDoor
open Go Go.RowKit Lw
set_option maxRecDepth 100000 in
set_option maxHeartbeats 1600000 in
theorem divisor_small (A A' : Option Addr) (N M n m c c' B B' : Nat) (w : World) (h : Rd w B A (digs N)) (h' : Rd w B' A' (digs M)) (hB : B ≤ w.heap.size) (hB' : B' ≤ w.heap.size)
    (hn : (digs N).length = n) (hm : (digs M).length = m) (hl : n ≤ 2) (hl' : m ≤ 2) (hc : n ≤ c) (hc' : m ≤ c') (hMN : M ≤ N) :
    Calls Tryz.prog 155 #[.slice A n c, .slice A' m c'] w (OutW w (Nat.gcd N M)) := by
  have vN := val_digs N
  have vM := val_digs M
  have Hn := Lib.hid hn
  have Hm := Lib.hid hm
  have VN := Lib.hid vN
  have VM := Lib.hid vM
  have hcm := cmpN_nonneg hMN
  clear hn hm vN vM
  go_enter Tryz.func155, Tryz.ntmps155
  go_wp2_with fail
  refine (compare_any A A' (digs N) (digs M) _ _ _ _ B B' _ h h' (trm_digs _) (trm_digs _) Hn.out Hm.out (by omega) (by omega)).mono ?_
  rintro e w1 ⟨rfl, q, rfl⟩
  rw [VN.out, VM.out]
  go_wp2_with fail
  refine wp_loop_rounds 1 ?_
  rw [rounds_succ]
  by_cases h0 : m = 0
  · subst h0
    have HM : Hid (Nat.gcd N M = N) := Lib.hid (by rw [digs_eq_nil.1 (List.eq_nil_of_length_eq_zero Hm.out), Nat.gcd_zero_right])
    go_wp2_with fail
    refine (clone_any A (digs N) _ _ B _ (h.drewN q) (by simpa using hB) Hn.out (by omega)).mono ?_
    rintro e w2 ⟨A1, c1, rfl, hc1, hg1, hr1, hb1⟩
    go_wp2_with fail
    go_ret
    rw [HM.out]
    exact ⟨A1, c1, ret_slice Hn.out.symm, by rw [Hn.out]; exact hc1, hr1, below_next (below_drewN' _ _ _) hb1 (Nat.le_refl _)⟩
  · have hbq : ((m : Int) == 0) = false := by rw [beq_eq_false_iff_ne]; omega
    have hM0 : M ≠ 0 := by intro e; subst e; exact h0 (by rw [← Hm.out]; rfl)
    have HM0 := Lib.hid hM0
    clear h0 hM0
    go_wp2_with fail
    refine (divide_of A A' N M _ _ c c' B B' _ (h.drewN q) (h'.drewN q) (by simpa using hB) (by simpa using hB') Hn.out Hm.out (by omega) (by omega) hc hc' HM0.out (.inl hl)).mono ?_
    rintro e w2 ⟨A3, c3, A4, c4, rfl, hc3, hc4, hr3, hr4, hb3⟩
    have hb4 := below_next (below_drewN' w.heap.size w q) hb3 (Nat.le_refl _)
    have hM2 : M ≤ 18446744073709551615 := by have := lt_of_digs_length (n := M) (k := 2) (by rw [Hm.out]; exact hl'); have h3 : pw 2 = 18446744073709551616 := rfl; omega
    have hR2 : N % M < M := Nat.mod_lt _ (by have := HM0.out; omega)
    have HG : Hid (Nat.gcd M (N % M) = Nat.gcd N M) := Lib.hid (by rw [Nat.gcd_comm N M, Nat.gcd_rec M N, Nat.gcd_comm])
    have hlR : (digs (N % M)).length ≤ 2 := Nat.le_trans (digs_length_le (k := 2) (by have h3 : pw 2 = 18446744073709551616 := rfl; omega)) (Nat.le_refl _)
    have HLo' : Hid (lo (digs M) 2 = M) := Lib.hid (by rw [lo_all (by rw [Hm.out]; exact hl'), VM.out])
    have HLoR : Hid (lo (digs (N % M)) 2 = N % M) := Lib.hid (by rw [lo_all hlR, val_digs])
    obtain ⟨R, hR⟩ : ∃ R, R = N % M := ⟨_, rfl⟩
    rw [← hR] at hr4 hc4 HG hlR HLoR hR2 ⊢
    clear hR
    obtain ⟨Q, hQ⟩ : ∃ Q, Q = N / M := ⟨_, rfl⟩
    rw [← hQ] at hr3 hc3 ⊢
    clear hQ
    go_wp2_with fail
    refine (low_any A' (digs M) _ c' B' _ (h'.below (hb4.mono hB')) Hm.out (by omega)).mono ?_
    rintro e w3 ⟨rfl, rfl⟩
    rw [HLo'.out]
    go_wp2_with fail
    refine (low_any A4 (digs R) _ c4 _ _ hr4 rfl (by omega)).mono ?_
    rintro e w3 ⟨rfl, rfl⟩
    rw [HLoR.out]
    go_wp2_with fail
    refine (smallDivisor_any M R _ hM2 (by omega)).mono ?_
    rintro e w3 ⟨rfl, q3, rfl⟩
    rw [HG.out]
    have hgl : Nat.gcd N M ≤ 18446744073709551615 := Nat.le_trans (Nat.gcd_le_right _ (by have := HM0.out; omega)) hM2
    generalize Nat.gcd N M = G at *
    go_wp2_with fail
    refine (split_any G _ hgl).mono ?_
    rintro e w5 ⟨A5, c5, rfl, hc5, hr5, hb5⟩
    go_wp2_with fail
    go_ret
    exact ⟨A5, c5, rfl, hc5, hr5, below_next (hb4.trans (below_drewN' _ _ _)) hb5 (by simp)⟩

set_option maxRecDepth 100000 in
set_option maxHeartbeats 1600000 in
theorem divisor_swap (A A' : Option Addr) (N M n m c c' B B' : Nat) (w : World) (h : Rd w B A (digs N)) (h' : Rd w B' A' (digs M)) (hB : B ≤ w.heap.size) (hB' : B' ≤ w.heap.size)
    (hn : (digs N).length = n) (hm : (digs M).length = m) (hl : n ≤ 2) (hl' : m ≤ 2) (hc : n ≤ c) (hc' : m ≤ c') (hMN : M < N) :
    Calls Tryz.prog 155 #[.slice A' m c', .slice A n c] w (OutW w (Nat.gcd N M)) := by
  have vN := val_digs N
  have vM := val_digs M
  have Hn := Lib.hid hn
  have Hm := Lib.hid hm
  have VN := Lib.hid vN
  have VM := Lib.hid vM
  have hcm := cmpN_neg hMN
  clear hn hm vN vM
  go_enter Tryz.func155, Tryz.ntmps155
  go_wp2_with fail
  refine (compare_any A' A (digs M) (digs N) _ _ _ _ B' B _ h' h (trm_digs _) (trm_digs _) Hm.out Hn.out (by omega) (by omega)).mono ?_
  rintro e w1 ⟨rfl, q, rfl⟩
  rw [VM.out, VN.out]
  go_wp2_with fail
  refine wp_loop_rounds 1 ?_
  rw [rounds_succ]
  by_cases h0 : m = 0
  · subst h0
    have HM : Hid (Nat.gcd N M = N) := Lib.hid (by rw [digs_eq_nil.1 (List.eq_nil_of_length_eq_zero Hm.out), Nat.gcd_zero_right])
    go_wp2_with fail
    refine (clone_any A (digs N) _ _ B _ (h.drewN q) (by simpa using hB) Hn.out (by omega)).mono ?_
    rintro e w2 ⟨A1, c1, rfl, hc1, hg1, hr1, hb1⟩
    go_wp2_with fail
    go_ret
    rw [HM.out]
    exact ⟨A1, c1, ret_slice Hn.out.symm, by rw [Hn.out]; exact hc1, hr1, below_next (below_drewN' _ _ _) hb1 (Nat.le_refl _)⟩
  · have hbq : ((m : Int) == 0) = false := by rw [beq_eq_false_iff_ne]; omega
    have hM0 : M ≠ 0 := by intro e; subst e; exact h0 (by rw [← Hm.out]; rfl)
    have HM0 := Lib.hid hM0
    clear h0 hM0
    go_wp2_with fail
    refine (divide_of A A' N M _ _ c c' B B' _ (h.drewN q) (h'.drewN q) (by simpa using hB) (by simpa using hB') Hn.out Hm.out (by omega) (by omega) hc hc' HM0.out (.inl hl)).mono ?_
    rintro e w2 ⟨A3, c3, A4, c4, rfl, hc3, hc4, hr3, hr4, hb3⟩
    have hb4 := below_next (below_drewN' w.heap.size w q) hb3 (Nat.le_refl _)
    have hM2 : M ≤ 18446744073709551615 := by have := lt_of_digs_length (n := M) (k := 2) (by rw [Hm.out]; exact hl'); have h3 : pw 2 = 18446744073709551616 := rfl; omega
    have hR2 : N % M < M := Nat.mod_lt _ (by have := HM0.out; omega)
    have HG : Hid (Nat.gcd M (N % M) = Nat.gcd N M) := Lib.hid (by rw [Nat.gcd_comm N M, Nat.gcd_rec M N, Nat.gcd_comm])
    have hlR : (digs (N % M)).length ≤ 2 := Nat.le_trans (digs_length_le (k := 2) (by have h3 : pw 2 = 18446744073709551616 := rfl; omega)) (Nat.le_refl _)
    have HLo' : Hid (lo (digs M) 2 = M) := Lib.hid (by rw [lo_all (by rw [Hm.out]; exact hl'), VM.out])
    have HLoR : Hid (lo (digs (N % M)) 2 = N % M) := Lib.hid (by rw [lo_all hlR, val_digs])
    obtain ⟨R, hR⟩ : ∃ R, R = N % M := ⟨_, rfl⟩
    rw [← hR] at hr4 hc4 HG hlR HLoR hR2 ⊢
    clear hR
    obtain ⟨Q, hQ⟩ : ∃ Q, Q = N / M := ⟨_, rfl⟩
    rw [← hQ] at hr3 hc3 ⊢
    clear hQ
    go_wp2_with fail
    refine (low_any A' (digs M) _ c' B' _ (h'.below (hb4.mono hB')) Hm.out (by omega)).mono ?_
    rintro e w3 ⟨rfl, rfl⟩
    rw [HLo'.out]
    go_wp2_with fail
    refine (low_any A4 (digs R) _ c4 _ _ hr4 rfl (by omega)).mono ?_
    rintro e w3 ⟨rfl, rfl⟩
    rw [HLoR.out]
    go_wp2_with fail
    refine (smallDivisor_any M R _ hM2 (by omega)).mono ?_
    rintro e w3 ⟨rfl, q3, rfl⟩
    rw [HG.out]
    have hgl : Nat.gcd N M ≤ 18446744073709551615 := Nat.le_trans (Nat.gcd_le_right _ (by have := HM0.out; omega)) hM2
    generalize Nat.gcd N M = G at *
    go_wp2_with fail
    refine (split_any G _ hgl).mono ?_
    rintro e w5 ⟨A5, c5, rfl, hc5, hr5, hb5⟩
    go_wp2_with fail
    go_ret
    exact ⟨A5, c5, rfl, hc5, hr5, below_next (hb4.trans (below_drewN' _ _ _)) hb5 (by simp)⟩

set_option maxHeartbeats 1600000 in
theorem root_small (A : Option Addr) (N n c B : Nat) (w : World) (h : Rd w B A (digs N)) (_hB : B ≤ w.heap.size) (hn : (digs N).length = n) (hl : n ≤ 2) :
    Calls Tryz.prog 171 #[.slice A n c] w (OutW w (rt N)) := by
  have HL : Hid (lo (digs N) 2 = N) := Lib.hid (by rw [lo_all (by rw [hn]; exact hl), val_digs])
  have hN2 : N ≤ 18446744073709551615 := by have := lt_of_digs_length (n := N) (k := 2) (by rw [hn]; exact hl); have h3 : pw 2 = 18446744073709551616 := rfl; omega
  have Hn := Lib.hid hn
  clear hn
  have hrl : rt N ≤ 18446744073709551615 := by
    have := rt_le N
    rcases Nat.eq_zero_or_pos (rt N) with h0 | h0
    · omega
    · have := Nat.mul_le_mul_left (rt N) h0; omega
  have HRL := Lib.hid hrl
  clear hrl
  go_enter Tryz.func171, Tryz.ntmps171
  go_wp2_with fail
  refine (low_any A (digs N) _ c B _ h Hn.out (by omega)).mono ?_
  rintro e w2 ⟨rfl, rfl⟩
  rw [HL.out]
  go_wp2_with fail
  refine (smallRoot_any N _ hN2).mono ?_
  rintro e w3 ⟨rfl, rfl⟩
  go_wp2_with fail
  refine (split_any (rt N) _ HRL.out).mono ?_
  rintro e w5 ⟨A5, c5, rfl, hc5, hr5, hb5⟩
  go_wp2_with fail
  go_ret
  exact ⟨A5, c5, rfl, hc5, hr5, hb5⟩
end Go.Proofs.YtdecmhcojdnokaaGreatDoor
/-! Walk of integer.Gcd. -/
namespace Go.Proofs.YtdecmhcojdnokaaGreatDoor
open Go Go.RowKit Lw
attribute [local go_sem ↓] Go.wp_at_zero Go.wp_at_succ

set_option maxHeartbeats 3200000 in
theorem gcdsmall_any (s s' : Bool) (A A' : Option Addr) (ns ms : List Nat) (n m c c' B B' : Nat) (w : World) (h : Rd w B A ns) (h' : Rd w B' A' ms) (hB : B ≤ w.heap.size) (hB' : B' ≤ w.heap.size)
    (hn : ns.length = n) (hm : ms.length = m) (hl : n ≤ 8388608) (hl' : m ≤ 8388608) (hc : n ≤ c) (hc' : m ≤ c') (hs : n ≤ 2 ∧ m ≤ 2 ∧ (zv s' ms).natAbs ≤ (zv s ns).natAbs) :
    Calls Tryz.prog 116 #[.agg #[.bool s, .slice A n c], .agg #[.bool s', .slice A' m c']] w (ZOut w ((Nat.gcd (zv s ns).natAbs (zv s' ms).natAbs : Nat) : Int)) := by
  have hlz := zv_len (s := s) h.wds
  have hlz' := zv_len (s := s') h'.wds
  rw [hn] at hlz
  rw [hm] at hlz'
  have HS := Lib.hid hs
  clear hs
  go_enter Tryz.func116, Tryz.ntmps116
  go_upto_region 1 with fail
  obtain ⟨T1, T2, T3, _, hb0⟩ := box3 (Below.refl _ (((w.alloc (.cells #[.bool s, .slice A n c] 27)).alloc (.cells #[.bool s', .slice A' m c'] 27)).alloc (.cells #[.bool false, .slice none 0 0] 27)))
  have R1 := h.below (hb0.mono hB)
  have R2 := h'.below (hb0.mono hB')
  generalize hW : (((w.alloc (.cells #[.bool s, .slice A n c] 27)).alloc (.cells #[.bool s', .slice A' m c'] 27)).alloc (.cells #[.bool false, .slice none 0 0] 27)) = W at *
  clear hW
  have l3 := T3.lt
  obtain ⟨c10, c11, f10, f11⟩ := T1.facts
  obtain ⟨c20, c21, f20, f21⟩ := T2.facts
  go_cut [] (fun wc => ∃ A1 c1 A2 c2, Two wc w.heap.size 27 (.bool (sg (zv s ns))) (.slice A1 (mg (zv s ns)).length c1) ∧ Two wc (w.heap.size + 1) 27 (.bool (sg (zv s' ms))) (.slice A2 (mg (zv s' ms)).length c2) ∧
    Two wc (w.heap.size + 1 + 1) 27 (.bool false) (.slice none 0 0) ∧ Rd wc B A1 (mg (zv s ns)) ∧ Rd wc B' A2 (mg (zv s' ms)) ∧ Below w.heap.size w wc ∧ (mg (zv s ns)).length ≤ c1 ∧ (mg (zv s' ms)).length ≤ c2)
  case first =>
    go_region_with (first
      | (go_at_call_of 107 (Value.agg #[Value.bool s, Value.slice A n c]); refine (known_any s A ns n c B _ (by first | exact R1.drew | exact R1.next K2 (by omega)) (by first | (simp; omega) | (have := K2.size; omega)) hn (by omega) hc).mono ?_; rintro e w1 ⟨A1, c1, rfl, hc1, hr1, hb1⟩; have K1 : Below W.heap.size W w1 := (by first | exact next0 hb1 | exact next1 K2 hb1); obtain ⟨d10, d11, g10, g11⟩ := (T1.next K1).facts; obtain ⟨d20, d21, g20, g21⟩ := (T2.next K1).facts)
      | (go_at_call_of 107 (Value.agg #[Value.bool s', Value.slice A' m c']); refine (known_any s' A' ms m c' B' _ (by first | exact R2.drew | exact R2.next K1 (by omega)) (by first | (simp; omega) | (have := K1.size; omega)) hm (by omega) hc').mono ?_; rintro e w2 ⟨A2, c2, rfl, hc2, hr2, hb2⟩; have K2 : Below W.heap.size W w2 := (by first | exact next0 hb2 | exact next1 K1 hb2); obtain ⟨i10, i11, j10, j11⟩ := (T1.next K2).facts; obtain ⟨i20, i21, j20, j21⟩ := (T2.next K2).facts))
    all_goals
      obtain ⟨P1, P2, P3, P4, P5⟩ : _ ∧ _ ∧ _ ∧ _ ∧ _ := by
        first
          | exact pair_put (sg (zv s ns)) (sg (zv s' ms)) (.slice A1 (mg (zv s ns)).length c1) (.slice A2 (mg (zv s' ms)).length c2) (T1.next K2) (T2.next K2) (by omega) (hr1.next hb2 (by have := K1.size; omega)) hr2 (below_next hb0 K2 (by omega)) (Nat.le_refl _) (by omega)
          | exact pair_put (sg (zv s ns)) (sg (zv s' ms)) (.slice A1 (mg (zv s ns)).length c1) (.slice A2 (mg (zv s' ms)).length c2) (T1.next K1) (T2.next K1) (by omega) hr1 (hr2.next hb1 (by have := K2.size; omega)) (below_next hb0 K1 (by omega)) (Nat.le_refl _) (by omega)
      clear d10 d11 g10 g11 d20 d21 g20 g21 i10 i11 i20 i21 j10 j11 j20 j21 c10 c11 c20 c21 f10 f11 f20 f21
      go_wp2_with fail
      go_meet
      have N01 := (T3.next K1)
      have N02 := (T3.next K2)
      exact ⟨A1, c1, A2, c2, P1, P2, by first | exact N02.far4 (by omega) (by omega) _ _ _ _ | exact N01.far4 (by omega) (by omega) _ _ _ _, P3, P4, P5, hc1, hc2⟩
  case rest =>
    obtain ⟨A1, c1, A2, c2, Q1, Q2, Q3, r1, r2, hbc, hc1, hc2⟩ := hcut
    clear T1 T2 T3 R1 R2 hb0 l3 c10 c11 c20 c21 f10 f11 f20 f21
    obtain ⟨c10, c11, f10, f11⟩ := Q1.facts
    obtain ⟨c20, c21, f20, f21⟩ := Q2.facts
    go_wp2_with fail
    refine (divisor_small A1 A2 (zv s ns).natAbs (zv s' ms).natAbs _ _ c1 c2 B B' _ r1 r2 (by have := hbc.size; omega) (by have := hbc.size; omega) rfl rfl (Nat.le_trans hlz HS.out.1) (Nat.le_trans hlz' HS.out.2.1) hc1 hc2 HS.out.2.2).mono ?_
    rintro e w3 ⟨A3, c3, rfl, hc3, hr3, hb3⟩
    have U3 := Q3.next hb3
    generalize Nat.gcd (zv s ns).natAbs (zv s' ms).natAbs = G at *
    go_wp2_with fail
    refine (signed_any false A3 G _ c3 _ (G : Int) _ hr3 (Nat.le_refl _) rfl hc3 rfl).mono ?_
    rintro e w4 ⟨A4, c4, rfl, hc4, hr4, hb4⟩
    have V3 := U3.next hb4
    obtain ⟨d0, d1, g0, g1⟩ := V3.facts
    have hsz3 := hb3.size
    have hsz4 := hbc.size
    go_wp2_with fail
    refine bodyPost_ret (v := .agg #[.bool (sg (G : Int)), .slice A4 (mg (G : Int)).length c4]) (by simp [results, Tryz.results116, go_sem, d0, d1]) rfl ?_
    exact zout_put V3 hr4 hb4.size hc4 (below_next (below_next hbc hb3 (Nat.le_refl _)) hb4 (by omega)) (by omega)
end Go.Proofs.YtdecmhcojdnokaaGreatDoor
/-! Walk of integer.Gcd. -/
namespace Go.Proofs.YtdecmhcojdnokaaGreatDoor
open Go Go.RowKit Lw
attribute [local go_sem ↓] Go.wp_at_zero Go.wp_at_succ

set_option maxHeartbeats 3200000 in
theorem gcdswap_any (s s' : Bool) (A A' : Option Addr) (ns ms : List Nat) (n m c c' B B' : Nat) (w : World) (h : Rd w B A ns) (h' : Rd w B' A' ms) (hB : B ≤ w.heap.size) (hB' : B' ≤ w.heap.size)
    (hn : ns.length = n) (hm : ms.length = m) (hl : n ≤ 8388608) (hl' : m ≤ 8388608) (hc : n ≤ c) (hc' : m ≤ c') (hs : n ≤ 2 ∧ m ≤ 2 ∧ (zv s ns).natAbs < (zv s' ms).natAbs) :
    Calls Tryz.prog 116 #[.agg #[.bool s, .slice A n c], .agg #[.bool s', .slice A' m c']] w (ZOut w ((Nat.gcd (zv s ns).natAbs (zv s' ms).natAbs : Nat) : Int)) := by
  have hlz := zv_len (s := s) h.wds
  have hlz' := zv_len (s := s') h'.wds
  rw [hn] at hlz
  rw [hm] at hlz'
  have HS := Lib.hid hs
  clear hs
  go_enter Tryz.func116, Tryz.ntmps116
  go_upto_region 1 with fail
  obtain ⟨T1, T2, T3, _, hb0⟩ := box3 (Below.refl _ (((w.alloc (.cells #[.bool s, .slice A n c] 27)).alloc (.cells #[.bool s', .slice A' m c'] 27)).alloc (.cells #[.bool false, .slice none 0 0] 27)))
  have R1 := h.below (hb0.mono hB)
  have R2 := h'.below (hb0.mono hB')
  generalize hW : (((w.alloc (.cells #[.bool s, .slice A n c] 27)).alloc (.cells #[.bool s', .slice A' m c'] 27)).alloc (.cells #[.bool false, .slice none 0 0] 27)) = W at *
  clear hW
  have l3 := T3.lt
  obtain ⟨c10, c11, f10, f11⟩ := T1.facts
  obtain ⟨c20, c21, f20, f21⟩ := T2.facts
  go_cut [] (fun wc => ∃ A1 c1 A2 c2, Two wc w.heap.size 27 (.bool (sg (zv s ns))) (.slice A1 (mg (zv s ns)).length c1) ∧ Two wc (w.heap.size + 1) 27 (.bool (sg (zv s' ms))) (.slice A2 (mg (zv s' ms)).length c2) ∧
    Two wc (w.heap.size + 1 + 1) 27 (.bool false) (.slice none 0 0) ∧ Rd wc B A1 (mg (zv s ns)) ∧ Rd wc B' A2 (mg (zv s' ms)) ∧ Below w.heap.size w wc ∧ (mg (zv s ns)).length ≤ c1 ∧ (mg (zv s' ms)).length ≤ c2)
  case first =>
    go_region_with (first
      | (go_at_call_of 107 (Value.agg #[Value.bool s, Value.slice A n c]); refine (known_any s A ns n c B _ (by first | exact R1.drew | exact R1.next K2 (by omega)) (by first | (simp; omega) | (have := K2.size; omega)) hn (by omega) hc).mono ?_; rintro e w1 ⟨A1, c1, rfl, hc1, hr1, hb1⟩; have K1 : Below W.heap.size W w1 := (by first | exact next0 hb1 | exact next1 K2 hb1); obtain ⟨d10, d11, g10, g11⟩ := (T1.next K1).facts; obtain ⟨d20, d21, g20, g21⟩ := (T2.next K1).facts)
      | (go_at_call_of 107 (Value.agg #[Value.bool s', Value.slice A' m c']); refine (known_any s' A' ms m c' B' _ (by first | exact R2.drew | exact R2.next K1 (by omega)) (by first | (simp; omega) | (have := K1.size; omega)) hm (by omega) hc').mono ?_; rintro e w2 ⟨A2, c2, rfl, hc2, hr2, hb2⟩; have K2 : Below W.heap.size W w2 := (by first | exact next0 hb2 | exact next1 K1 hb2); obtain ⟨i10, i11, j10, j11⟩ := (T1.next K2).facts; obtain ⟨i20, i21, j20, j21⟩ := (T2.next K2).facts))
    all_goals
      obtain ⟨P1, P2, P3, P4, P5⟩ : _ ∧ _ ∧ _ ∧ _ ∧ _ := by
        first
          | exact pair_put (sg (zv s ns)) (sg (zv s' ms)) (.slice A1 (mg (zv s ns)).length c1) (.slice A2 (mg (zv s' ms)).length c2) (T1.next K2) (T2.next K2) (by omega) (hr1.next hb2 (by have := K1.size; omega)) hr2 (below_next hb0 K2 (by omega)) (Nat.le_refl _) (by omega)
          | exact pair_put (sg (zv s ns)) (sg (zv s' ms)) (.slice A1 (mg (zv s ns)).length c1) (.slice A2 (mg (zv s' ms)).length c2) (T1.next K1) (T2.next K1) (by omega) hr1 (hr2.next hb1 (by have := K2.size; omega)) (below_next hb0 K1 (by omega)) (Nat.le_refl _) (by omega)
      clear d10 d11 g10 g11 d20 d21 g20 g21 i10 i11 i20 i21 j10 j11 j20 j21 c10 c11 c20 c21 f10 f11 f20 f21
      go_wp2_with fail
      go_meet
      have N01 := (T3.next K1)
      have N02 := (T3.next K2)
      exact ⟨A1, c1, A2, c2, P1, P2, by first | exact N02.far4 (by omega) (by omega) _ _ _ _ | exact N01.far4 (by omega) (by omega) _ _ _ _, P3, P4, P5, hc1, hc2⟩
  case rest =>
    obtain ⟨A1, c1, A2, c2, Q1, Q2, Q3, r1, r2, hbc, hc1, hc2⟩ := hcut
    clear T1 T2 T3 R1 R2 hb0 l3 c10 c11 c20 c21 f10 f11 f20 f21
    obtain ⟨c10, c11, f10, f11⟩ := Q1.facts
    obtain ⟨c20, c21, f20, f21⟩ := Q2.facts
    go_wp2_with fail
    rw [Nat.gcd_comm]
    refine (divisor_swap A2 A1 (zv s' ms).natAbs (zv s ns).natAbs _ _ c2 c1 B' B _ r2 r1 (by have := hbc.size; omega) (by have := hbc.size; omega) rfl rfl (Nat.le_trans hlz' HS.out.2.1) (Nat.le_trans hlz HS.out.1) hc2 hc1 HS.out.2.2).mono ?_
    rw [Nat.gcd_comm]
    rintro e w3 ⟨A3, c3, rfl, hc3, hr3, hb3⟩
    have U3 := Q3.next hb3
    generalize Nat.gcd (zv s ns).natAbs (zv s' ms).natAbs = G at *
    go_wp2_with fail
    refine (signed_any false A3 G _ c3 _ (G : Int) _ hr3 (Nat.le_refl _) rfl hc3 rfl).mono ?_
    rintro e w4 ⟨A4, c4, rfl, hc4, hr4, hb4⟩
    have V3 := U3.next hb4
    obtain ⟨d0, d1, g0, g1⟩ := V3.facts
    have hsz3 := hb3.size
    have hsz4 := hbc.size
    go_wp2_with fail
    refine bodyPost_ret (v := .agg #[.bool (sg (G : Int)), .slice A4 (mg (G : Int)).length c4]) (by simp [results, Tryz.results116, go_sem, d0, d1]) rfl ?_
    exact zout_put V3 hr4 hb4.size hc4 (below_next (below_next hbc hb3 (Nat.le_refl _)) hb4 (by omega)) (by omega)
end Go.Proofs.YtdecmhcojdnokaaGreatDoor
/-! Walk of integer.Root: the root of longer numbers is a hypothesis. -/
namespace Go.Proofs.YtdecmhcojdnokaaGreatDoor
open Go Go.RowKit Lw
/-- The root of a number of more than two words is what it should be. -/
def RootOK : Prop := ∀ (A : Option Addr) (N n c B : Nat) (w : World), Rd w B A (digs N) → B ≤ w.heap.size → (digs N).length = n → n ≤ 8388608 → n ≤ c →
  Calls Tryz.prog 171 #[.slice A n c] w (OutW w (rt N))
theorem root_of (A : Option Addr) (N n c B : Nat) (w : World) (h : Rd w B A (digs N)) (hB : B ≤ w.heap.size) (hn : (digs N).length = n) (hl : n ≤ 8388608) (hc : n ≤ c) (HR : n ≤ 2 ∨ RootOK) :
    Calls Tryz.prog 171 #[.slice A n c] w (OutW w (rt N)) := by
  rcases HR with HR | HR
  · exact root_small A N n c B w h hB hn HR
  · exact HR A N n c B w h hB hn hl hc

set_option maxHeartbeats 1600000 in
theorem rootneg_any (s : Bool) (A : Option Addr) (ns : List Nat) (n c B : Nat) (w : World) (h : Rd w B A ns) (hB : B ≤ w.heap.size) (hn : ns.length = n) (hl : n ≤ 8388608) (hc : n ≤ c) (hz : zv s ns < 0) :
    Calls Tryz.prog 136 #[.agg #[.bool s, .slice A n c]] w fun e w' => e = .returned (.tuple #[.agg #[.bool false, .slice none 0 0], .iface 64 (.int .i64 3)]) ∧ Below w.heap.size w w' := by
  have hlz := zv_len (s := s) h.wds
  rw [hn] at hlz
  have hsg : sg (zv s ns) = true := by unfold sg; simpa using hz
  have hk := fun W hR hB' => known_any s A ns n c B W hR hB' hn (by omega) hc
  generalize zv s ns = z at *
  have Hk := Lib.hid hk
  clear hk hz
  go_enter Tryz.func136, Tryz.ntmps136
  go_wp2_with fail
  refine (Hk.out _ ((h.alloc hB _).alloc (by simp; omega) _) (by simp; omega)).mono ?_
  rintro e w1 ⟨A1, c1, rfl, hc1, hr1, hb1⟩
  obtain ⟨t1, t2, hs1, hb2⟩ := box2 hb1
  obtain ⟨c10, c11, f10, f11⟩ := t1.facts
  obtain ⟨c20, c21, f20, f21⟩ := t2.facts
  go_wp2_with fail
  refine bodyPost_ret (v := .tuple #[.agg #[.bool false, .slice none 0 0], .iface 64 (.int .i64 3)]) (by simp [results, Tryz.results136, go_sem, c20, c21]) rfl ?_
  exact ⟨rfl, (((hb2.setCell (by simp) _).setCell (by simp) _).setCell (by simp) _).setCell (by simp) _⟩

def RootOut (w : World) (z : Int) (e : Ending) (w' : World) : Prop :=
  ∃ A c, e = .returned (.tuple #[.agg #[.bool (sg z), .slice A (mg z).length c], .nilIface]) ∧ (mg z).length ≤ c ∧ Rd w' w'.heap.size A (mg z) ∧ Below w.heap.size w w'

set_option maxHeartbeats 1600000 in
theorem roots_any (s : Bool) (A : Option Addr) (ns : List Nat) (n c B : Nat) (w : World) (h : Rd w B A ns) (hB : B ≤ w.heap.size) (hn : ns.length = n) (hl : n ≤ 8388608) (hc : n ≤ c) (hz : 0 ≤ zv s ns) (HR : n ≤ 2 ∨ RootOK) :
    Calls Tryz.prog 136 #[.agg #[.bool s, .slice A n c]] w (RootOut w ((rt (zv s ns).natAbs : Nat) : Int)) := by
  have hlz := zv_len (s := s) h.wds
  rw [hn] at hlz
  have hsg : sg (zv s ns) = false := by unfold sg; simpa using hz
  have hk := fun W hR hB' => known_any s A ns n c B W hR hB' hn (by omega) hc
  generalize zv s ns = z at *
  have Hk := Lib.hid hk
  have HRH := Lib.hid HR
  clear hk hz HR
  go_enter Tryz.func136, Tryz.ntmps136
  go_wp2_with fail
  refine (Hk.out _ ((h.alloc hB _).alloc (by simp; omega) _) (by simp; omega)).mono ?_
  rintro e w1 ⟨A1, c1, rfl, hc1, hr1, hb1⟩
  obtain ⟨t1, t2, hs1, hb2⟩ := box2 hb1
  have T2 := (t2.far (p := ⟨w.heap.size, 0, none⟩) (by simp) (.bool (sg z))).far (p := ⟨w.heap.size, 1, none⟩) (by simp) (.slice A1 (mg z).length c1)
  have R1 := hr1.putTwo t1 (sg z) (.slice A1 (mg z).length c1)
  have hb3 := (hb2.setCell (p := ⟨w.heap.size, 0, none⟩) (Nat.le_refl _) (.bool (sg z))).setCell (p := ⟨w.heap.size, 1, none⟩) (Nat.le_refl _) (.slice A1 (mg z).length c1)
  obtain ⟨c10, c11, f10, f11⟩ := t1.facts
  obtain ⟨c20, c21, f20, f21⟩ := t2.facts
  rw [hsg] at T2 R1 hb3
  go_wp2_with fail
  refine (root_of A1 z.natAbs _ c1 B _ R1 (by have := hb3.size; omega) rfl (Nat.le_trans hlz hl) hc1 (HRH.out.imp (fun h => Nat.le_trans hlz h) id)).mono ?_
  rintro e w2 ⟨A2, c2, rfl, hc2, hr2, hb4⟩
  have U2 := T2.next hb4
  generalize rt z.natAbs = G at *
  go_wp2_with fail
  refine (signed_any false A2 G _ c2 _ (G : Int) _ hr2 (Nat.le_refl _) rfl hc2 rfl).mono ?_
  rintro e w4 ⟨A4, c4, rfl, hc4, hr4, hb5⟩
  have V2 := U2.next hb5
  obtain ⟨d0, d1, g0, g1⟩ := V2.facts
  have hsz3 := hb3.size
  have hsz4 := hb4.size
  go_wp2_with fail
  refine bodyPost_ret (v := .tuple #[.agg #[.bool (sg (G : Int)), .slice A4 (mg (G : Int)).length c4], .nilIface]) (by simp [results, Tryz.results136, go_sem, d0, d1]) rfl ?_
  obtain ⟨A5, c5, he, h1, h2, h3⟩ := zout_put V2 hr4 hb5.size hc4 (below_next (below_next hb3 hb4 (Nat.le_refl _)) hb5 (Nat.le_refl _)) (by omega)
  injection he with he
  injection he with he
  simp at he
  obtain ⟨rfl, rfl⟩ := he
  exact ⟨A4, c4, rfl, h1, h2, h3⟩
end Go.Proofs.YtdecmhcojdnokaaGreatDoor
