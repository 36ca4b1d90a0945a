/- Walk of integer.Gcd. -/
import Derived.Test.YtobffffcihlkbaaDoorGcdsmall
import Derived.Deep.RegionWith
import Derived.Deep.DeepCutAuto
namespace Go.Proofs.YtobffffcihlkbaaDoor
open Go Go.RowKit Lw
attribute [local go_sem ↓] Go.wp_at_zero Go.wp_at_succ

set_option maxHeartbeats 3200000 in
theorem gcdsmall_any (s s' : Bool) (A A' : Option Addr) (ns ms : List Nat) (n m c c' B B' : Nat) (w : World) (h : Rd w B A ns) (h' : Rd w B' A' ms) (hB : B ≤ w.heap.size) (hB' : B' ≤ w.heap.size)
    (hn : ns.length = n) (hm : ms.length = m) (hl : n ≤ 8388608) (hl' : m ≤ 8388608) (hc : n ≤ c) (hc' : m ≤ c') (hs : n ≤ 2 ∧ m ≤ 2 ∧ (zv s' ms).natAbs ≤ (zv s ns).natAbs) :
    Calls Tryd.prog 13 #[.agg #[.bool s, .slice A n c], .agg #[.bool s', .slice A' m c']] w (ZOut w ((Nat.gcd (zv s ns).natAbs (zv s' ms).natAbs : Nat) : Int)) := by
  have hlz := zv_len (s := s) h.wds
  have hlz' := zv_len (s := s') h'.wds
  rw [hn] at hlz
  rw [hm] at hlz'
  have HS := Lib.hid hs
  clear hs
  go_enter Tryd.func13, Tryd.ntmps13
  go_upto_region 1 with fail
  obtain ⟨T1, T2, T3, _, hb0⟩ := box3 (Below.refl _ (((w.alloc (.cells #[.bool s, .slice A n c] 24)).alloc (.cells #[.bool s', .slice A' m c'] 24)).alloc (.cells #[.bool false, .slice none 0 0] 24)))
  have R1 := h.below (hb0.mono hB)
  have R2 := h'.below (hb0.mono hB')
  generalize hW : (((w.alloc (.cells #[.bool s, .slice A n c] 24)).alloc (.cells #[.bool s', .slice A' m c'] 24)).alloc (.cells #[.bool false, .slice none 0 0] 24)) = W at *
  clear hW
  have l3 := T3.lt
  obtain ⟨c10, c11, f10, f11⟩ := T1.facts
  obtain ⟨c20, c21, f20, f21⟩ := T2.facts
  go_cut [] (fun wc => ∃ A1 c1 A2 c2, Two wc w.heap.size 24 (.bool (sg (zv s ns))) (.slice A1 (mg (zv s ns)).length c1) ∧ Two wc (w.heap.size + 1) 24 (.bool (sg (zv s' ms))) (.slice A2 (mg (zv s' ms)).length c2) ∧
    Two wc (w.heap.size + 1 + 1) 24 (.bool false) (.slice none 0 0) ∧ Rd wc B A1 (mg (zv s ns)) ∧ Rd wc B' A2 (mg (zv s' ms)) ∧ Below w.heap.size w wc ∧ (mg (zv s ns)).length ≤ c1 ∧ (mg (zv s' ms)).length ≤ c2)
  case first =>
    go_region_with (first
      | (go_at_call_of 20 (Value.agg #[Value.bool s, Value.slice A n c]); refine (known_any s A ns n c B _ (by first | exact R1.drew | exact R1.next K2 (by omega)) (by first | (simp; omega) | (have := K2.size; omega)) hn (by omega) hc).mono ?_; rintro e w1 ⟨A1, c1, rfl, hc1, hr1, hb1⟩; have K1 : Below W.heap.size W w1 := (by first | exact next0 hb1 | exact next1 K2 hb1); obtain ⟨d10, d11, g10, g11⟩ := (T1.next K1).facts; obtain ⟨d20, d21, g20, g21⟩ := (T2.next K1).facts)
      | (go_at_call_of 20 (Value.agg #[Value.bool s', Value.slice A' m c']); refine (known_any s' A' ms m c' B' _ (by first | exact R2.drew | exact R2.next K1 (by omega)) (by first | (simp; omega) | (have := K1.size; omega)) hm (by omega) hc').mono ?_; rintro e w2 ⟨A2, c2, rfl, hc2, hr2, hb2⟩; have K2 : Below W.heap.size W w2 := (by first | exact next0 hb2 | exact next1 K1 hb2); obtain ⟨i10, i11, j10, j11⟩ := (T1.next K2).facts; obtain ⟨i20, i21, j20, j21⟩ := (T2.next K2).facts))
    all_goals
      obtain ⟨P1, P2, P3, P4, P5⟩ : _ ∧ _ ∧ _ ∧ _ ∧ _ := by
        first
          | exact pair_put (sg (zv s ns)) (sg (zv s' ms)) (.slice A1 (mg (zv s ns)).length c1) (.slice A2 (mg (zv s' ms)).length c2) (T1.next K2) (T2.next K2) (by omega) (hr1.next hb2 (by have := K1.size; omega)) hr2 (below_next hb0 K2 (by omega)) (Nat.le_refl _) (by omega)
          | exact pair_put (sg (zv s ns)) (sg (zv s' ms)) (.slice A1 (mg (zv s ns)).length c1) (.slice A2 (mg (zv s' ms)).length c2) (T1.next K1) (T2.next K1) (by omega) hr1 (hr2.next hb1 (by have := K2.size; omega)) (below_next hb0 K1 (by omega)) (Nat.le_refl _) (by omega)
      clear d10 d11 g10 g11 d20 d21 g20 g21 i10 i11 i20 i21 j10 j11 j20 j21 c10 c11 c20 c21 f10 f11 f20 f21
      go_wp2_with fail
      go_meet
      have N01 := (T3.next K1)
      have N02 := (T3.next K2)
      exact ⟨A1, c1, A2, c2, P1, P2, by first | exact N02.far4 (by omega) (by omega) _ _ _ _ | exact N01.far4 (by omega) (by omega) _ _ _ _, P3, P4, P5, hc1, hc2⟩
  case rest =>
    obtain ⟨A1, c1, A2, c2, Q1, Q2, Q3, r1, r2, hbc, hc1, hc2⟩ := hcut
    clear T1 T2 T3 R1 R2 hb0 l3 c10 c11 c20 c21 f10 f11 f20 f21
    obtain ⟨c10, c11, f10, f11⟩ := Q1.facts
    obtain ⟨c20, c21, f20, f21⟩ := Q2.facts
    go_wp2_with fail
    refine (divisor_small A1 A2 (zv s ns).natAbs (zv s' ms).natAbs _ _ c1 c2 B B' _ r1 r2 (by have := hbc.size; omega) (by have := hbc.size; omega) rfl rfl (Nat.le_trans hlz HS.out.1) (Nat.le_trans hlz' HS.out.2.1) hc1 hc2 HS.out.2.2).mono ?_
    rintro e w3 ⟨A3, c3, rfl, hc3, hr3, hb3⟩
    have U3 := Q3.next hb3
    generalize Nat.gcd (zv s ns).natAbs (zv s' ms).natAbs = G at *
    go_wp2_with fail
    refine (signed_any false A3 G _ c3 _ (G : Int) _ hr3 (Nat.le_refl _) rfl hc3 rfl).mono ?_
    rintro e w4 ⟨A4, c4, rfl, hc4, hr4, hb4⟩
    have V3 := U3.next hb4
    obtain ⟨d0, d1, g0, g1⟩ := V3.facts
    have hsz3 := hb3.size
    have hsz4 := hbc.size
    go_wp2_with fail
    refine bodyPost_ret (v := .agg #[.bool (sg (G : Int)), .slice A4 (mg (G : Int)).length c4]) (by simp [results, Tryd.results13, go_sem, d0, d1]) rfl ?_
    exact zout_put V3 hr4 hb4.size hc4 (below_next (below_next hbc hb3 (Nat.le_refl _)) hb4 (by omega)) (by omega)
end Go.Proofs.YtobffffcihlkbaaDoor
/-! Walk of integer.Gcd. -/
namespace Go.Proofs.YtobffffcihlkbaaDoor
open Go Go.RowKit Lw
attribute [local go_sem ↓] Go.wp_at_zero Go.wp_at_succ

set_option maxHeartbeats 3200000 in
theorem gcdswap_any (s s' : Bool) (A A' : Option Addr) (ns ms : List Nat) (n m c c' B B' : Nat) (w : World) (h : Rd w B A ns) (h' : Rd w B' A' ms) (hB : B ≤ w.heap.size) (hB' : B' ≤ w.heap.size)
    (hn : ns.length = n) (hm : ms.length = m) (hl : n ≤ 8388608) (hl' : m ≤ 8388608) (hc : n ≤ c) (hc' : m ≤ c') (hs : n ≤ 2 ∧ m ≤ 2 ∧ (zv s ns).natAbs < (zv s' ms).natAbs) :
    Calls Tryd.prog 13 #[.agg #[.bool s, .slice A n c], .agg #[.bool s', .slice A' m c']] w (ZOut w ((Nat.gcd (zv s ns).natAbs (zv s' ms).natAbs : Nat) : Int)) := by
  have hlz := zv_len (s := s) h.wds
  have hlz' := zv_len (s := s') h'.wds
  rw [hn] at hlz
  rw [hm] at hlz'
  have HS := Lib.hid hs
  clear hs
  go_enter Tryd.func13, Tryd.ntmps13
  go_upto_region 1 with fail
  obtain ⟨T1, T2, T3, _, hb0⟩ := box3 (Below.refl _ (((w.alloc (.cells #[.bool s, .slice A n c] 24)).alloc (.cells #[.bool s', .slice A' m c'] 24)).alloc (.cells #[.bool false, .slice none 0 0] 24)))
  have R1 := h.below (hb0.mono hB)
  have R2 := h'.below (hb0.mono hB')
  generalize hW : (((w.alloc (.cells #[.bool s, .slice A n c] 24)).alloc (.cells #[.bool s', .slice A' m c'] 24)).alloc (.cells #[.bool false, .slice none 0 0] 24)) = W at *
  clear hW
  have l3 := T3.lt
  obtain ⟨c10, c11, f10, f11⟩ := T1.facts
  obtain ⟨c20, c21, f20, f21⟩ := T2.facts
  go_cut [] (fun wc => ∃ A1 c1 A2 c2, Two wc w.heap.size 24 (.bool (sg (zv s ns))) (.slice A1 (mg (zv s ns)).length c1) ∧ Two wc (w.heap.size + 1) 24 (.bool (sg (zv s' ms))) (.slice A2 (mg (zv s' ms)).length c2) ∧
    Two wc (w.heap.size + 1 + 1) 24 (.bool false) (.slice none 0 0) ∧ Rd wc B A1 (mg (zv s ns)) ∧ Rd wc B' A2 (mg (zv s' ms)) ∧ Below w.heap.size w wc ∧ (mg (zv s ns)).length ≤ c1 ∧ (mg (zv s' ms)).length ≤ c2)
  case first =>
    go_region_with (first
      | (go_at_call_of 20 (Value.agg #[Value.bool s, Value.slice A n c]); refine (known_any s A ns n c B _ (by first | exact R1.drew | exact R1.next K2 (by omega)) (by first | (simp; omega) | (have := K2.size; omega)) hn (by omega) hc).mono ?_; rintro e w1 ⟨A1, c1, rfl, hc1, hr1, hb1⟩; have K1 : Below W.heap.size W w1 := (by first | exact next0 hb1 | exact next1 K2 hb1); obtain ⟨d10, d11, g10, g11⟩ := (T1.next K1).facts; obtain ⟨d20, d21, g20, g21⟩ := (T2.next K1).facts)
      | (go_at_call_of 20 (Value.agg #[Value.bool s', Value.slice A' m c']); refine (known_any s' A' ms m c' B' _ (by first | exact R2.drew | exact R2.next K1 (by omega)) (by first | (simp; omega) | (have := K1.size; omega)) hm (by omega) hc').mono ?_; rintro e w2 ⟨A2, c2, rfl, hc2, hr2, hb2⟩; have K2 : Below W.heap.size W w2 := (by first | exact next0 hb2 | exact next1 K1 hb2); obtain ⟨i10, i11, j10, j11⟩ := (T1.next K2).facts; obtain ⟨i20, i21, j20, j21⟩ := (T2.next K2).facts))
    all_goals
      obtain ⟨P1, P2, P3, P4, P5⟩ : _ ∧ _ ∧ _ ∧ _ ∧ _ := by
        first
          | exact pair_put (sg (zv s ns)) (sg (zv s' ms)) (.slice A1 (mg (zv s ns)).length c1) (.slice A2 (mg (zv s' ms)).length c2) (T1.next K2) (T2.next K2) (by omega) (hr1.next hb2 (by have := K1.size; omega)) hr2 (below_next hb0 K2 (by omega)) (Nat.le_refl _) (by omega)
          | exact pair_put (sg (zv s ns)) (sg (zv s' ms)) (.slice A1 (mg (zv s ns)).length c1) (.slice A2 (mg (zv s' ms)).length c2) (T1.next K1) (T2.next K1) (by omega) hr1 (hr2.next hb1 (by have := K2.size; omega)) (below_next hb0 K1 (by omega)) (Nat.le_refl _) (by omega)
      clear d10 d11 g10 g11 d20 d21 g20 g21 i10 i11 i20 i21 j10 j11 j20 j21 c10 c11 c20 c21 f10 f11 f20 f21
      go_wp2_with fail
      go_meet
      have N01 := (T3.next K1)
      have N02 := (T3.next K2)
      exact ⟨A1, c1, A2, c2, P1, P2, by first | exact N02.far4 (by omega) (by omega) _ _ _ _ | exact N01.far4 (by omega) (by omega) _ _ _ _, P3, P4, P5, hc1, hc2⟩
  case rest =>
    obtain ⟨A1, c1, A2, c2, Q1, Q2, Q3, r1, r2, hbc, hc1, hc2⟩ := hcut
    clear T1 T2 T3 R1 R2 hb0 l3 c10 c11 c20 c21 f10 f11 f20 f21
    obtain ⟨c10, c11, f10, f11⟩ := Q1.facts
    obtain ⟨c20, c21, f20, f21⟩ := Q2.facts
    go_wp2_with fail
    rw [Nat.gcd_comm]
    refine (divisor_swap A2 A1 (zv s' ms).natAbs (zv s ns).natAbs _ _ c2 c1 B' B _ r2 r1 (by have := hbc.size; omega) (by have := hbc.size; omega) rfl rfl (Nat.le_trans hlz' HS.out.2.1) (Nat.le_trans hlz HS.out.1) hc2 hc1 HS.out.2.2).mono ?_
    rw [Nat.gcd_comm]
    rintro e w3 ⟨A3, c3, rfl, hc3, hr3, hb3⟩
    have U3 := Q3.next hb3
    generalize Nat.gcd (zv s ns).natAbs (zv s' ms).natAbs = G at *
    go_wp2_with fail
    refine (signed_any false A3 G _ c3 _ (G : Int) _ hr3 (Nat.le_refl _) rfl hc3 rfl).mono ?_
    rintro e w4 ⟨A4, c4, rfl, hc4, hr4, hb4⟩
    have V3 := U3.next hb4
    obtain ⟨d0, d1, g0, g1⟩ := V3.facts
    have hsz3 := hb3.size
    have hsz4 := hbc.size
    go_wp2_with fail
    refine bodyPost_ret (v := .agg #[.bool (sg (G : Int)), .slice A4 (mg (G : Int)).length c4]) (by simp [results, Tryd.results13, go_sem, d0, d1]) rfl ?_
    exact zout_put V3 hr4 hb4.size hc4 (below_next (below_next hbc hb3 (Nat.le_refl _)) hb4 (by omega)) (by omega)
end Go.Proofs.YtobffffcihlkbaaDoor
