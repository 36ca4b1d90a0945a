/- Walks of integer: sum, Add, Sub. -/
import Derived.Test.YtgpckcikkppfjaaDoorNeg
import Derived.Deep.RegionWith
import Derived.Deep.DeepCutAuto
namespace Lw
def sv (s : Bool) (N : Nat) : Int := if s then -(N : Int) else (N : Int)
theorem sv_sg (z : Int) : sv (sg z) z.natAbs = z := by have := sg_mg z; rw [val_mg] at this; exact this.symm
theorem sv_not_sg (z : Int) : sv (!sg z) z.natAbs = -z := (neg_form z).symm
theorem sv_eq (s s' : Bool) (h : (s == s') = true) (N M : Nat) : sv s N + sv s' M = sv s (N + M) := by
  cases s <;> cases s' <;> simp [sv] at * <;> omega
theorem sv_ne (s s' : Bool) (h : (s == s') = false) {N M : Nat} (hle : M ≤ N) : sv s N + sv s' M = sv s (N - M) := by
  cases s <;> cases s' <;> simp [sv] at * <;> omega
theorem sv_ne' (s s' : Bool) (h : (s == s') = false) {N M : Nat} (hle : N ≤ M) : sv s N + sv s' M = sv s' (M - N) := by
  cases s <;> cases s' <;> simp [sv] at * <;> omega
theorem cmpN_neg {a b : Nat} (h : a < b) : cmpN a b < 0 := by rw [cmpN_lt h]; omega
theorem cmpN_nonneg {a b : Nat} (h : b ≤ a) : ¬ cmpN a b < 0 := by unfold cmpN; rw [if_neg (by omega)]; split <;> omega
end Lw
namespace Go.Proofs.YtgpckcikkppfjaaDoor
open Go Go.RowKit Lw
set_option maxHeartbeats 1600000 in
theorem sum_any (s s' : Bool) (A A' : Option Addr) (N M : Nat) (n m c c' B B' : Nat) (w : World) (h : Rd w B A (digs N)) (h' : Rd w B' A' (digs M)) (hB : B ≤ w.heap.size) (hB' : B' ≤ w.heap.size)
    (hn : (digs N).length = n) (hm : (digs M).length = m) (hl : n ≤ 8388608) (hl' : m ≤ 8388608) (hc : n ≤ c) (hc' : m ≤ c') :
    Calls Tryd.prog 52 #[.bool s, .slice A n c, .bool s', .slice A' m c'] w (ZOut w (sv s N + sv s' M)) := by
  have vN := val_digs N
  have vM := val_digs M
  have Hn := Lib.hid hn
  have Hm := Lib.hid hm
  have VN := Lib.hid vN
  have VM := Lib.hid vM
  clear hn hm vN vM
  cases hs : (s == s')
  · rcases Nat.lt_or_ge N M with hlt | hge
    · have HZ : Hid (sv s N + sv s' M = sv s' (M - N)) := Lib.hid (sv_ne' s s' hs (Nat.le_of_lt hlt))
      have hcm := cmpN_neg hlt
      go_enter Tryd.func52, Tryd.ntmps52
      go_wp2_with fail
      refine (compare_any A A' (digs N) (digs M) _ _ _ _ B B' _ (h.alloc hB _) (h'.alloc hB' _) (trm_digs _) (trm_digs _) Hn.out Hm.out (by omega) (by omega)).mono ?_
      rintro e w1 ⟨rfl, q, hw1⟩
      rw [VN.out, VM.out]
      have hb0 : Below (w.alloc (.cells #[.bool false, .slice none 0 0] 24)).heap.size (w.alloc (.cells #[.bool false, .slice none 0 0] 24)) w1 := by
        rw [hw1]; exact below_drewN' _ _ _
      obtain ⟨t0, hs0, hb00⟩ := box1 hb0
      have h1 := h.below (hb00.mono hB)
      have h1' := h'.below (hb00.mono hB')
      clear hw1 hb0
      go_wp2_with fail
      refine (subtract_any A' A (digs M) (digs N) _ _ _ _ B' B _ h1' h1 (by omega) (by omega) Hm.out Hn.out (by omega) (by omega) (by rw [VN.out, VM.out]; omega)).mono ?_
      rintro e w2 ⟨A1, c1, rfl, hc1, hr1, hb1⟩
      rw [VN.out, VM.out] at *
      have t1 := t0.below hb1 t0.lt
      have hb2 := below_next hb00 hb1 (by omega)
      have hsz := hb1.size
      go_wp2_with fail
      refine (signed_any s' A1 (M - N) _ c1 _ (sv s N + sv s' M) _ hr1 (Nat.le_refl _) rfl hc1 HZ.out).mono ?_
      rintro e w3 ⟨A2, c2, rfl, hc2, hr2, hb3⟩
      have T2 := t1.below hb3 t1.lt
      obtain ⟨d0, d1, g0, g1⟩ := T2.facts
      go_wp2_with fail
      refine bodyPost_ret (v := .agg #[.bool (sg (sv s N + sv s' M)), .slice A2 (mg (sv s N + sv s' M)).length c2]) (by simp [results, Tryd.results52, go_sem, d0, d1]) rfl ?_
      exact zout_put T2 hr2 hb3.size hc2 (below_next hb2 hb3 (by omega)) (Nat.le_refl _)
    · have HZ : Hid (sv s N + sv s' M = sv s (N - M)) := Lib.hid (sv_ne s s' hs hge)
      have hcm := cmpN_nonneg hge
      go_enter Tryd.func52, Tryd.ntmps52
      go_wp2_with fail
      refine (compare_any A A' (digs N) (digs M) _ _ _ _ B B' _ (h.alloc hB _) (h'.alloc hB' _) (trm_digs _) (trm_digs _) Hn.out Hm.out (by omega) (by omega)).mono ?_
      rintro e w1 ⟨rfl, q, hw1⟩
      rw [VN.out, VM.out]
      have hb0 : Below (w.alloc (.cells #[.bool false, .slice none 0 0] 24)).heap.size (w.alloc (.cells #[.bool false, .slice none 0 0] 24)) w1 := by
        rw [hw1]; exact below_drewN' _ _ _
      obtain ⟨t0, hs0, hb00⟩ := box1 hb0
      have h1 := h.below (hb00.mono hB)
      have h1' := h'.below (hb00.mono hB')
      clear hw1 hb0
      go_wp2_with fail
      refine (subtract_any A A' (digs N) (digs M) _ _ _ _ B B' _ h1 h1' (by omega) (by omega) Hn.out Hm.out (by omega) (by omega) (by rw [VN.out, VM.out]; omega)).mono ?_
      rintro e w2 ⟨A1, c1, rfl, hc1, hr1, hb1⟩
      rw [VN.out, VM.out] at *
      have t1 := t0.below hb1 t0.lt
      have hb2 := below_next hb00 hb1 (by omega)
      have hsz := hb1.size
      go_wp2_with fail
      refine (signed_any s A1 (N - M) _ c1 _ (sv s N + sv s' M) _ hr1 (Nat.le_refl _) rfl hc1 HZ.out).mono ?_
      rintro e w3 ⟨A2, c2, rfl, hc2, hr2, hb3⟩
      have T2 := t1.below hb3 t1.lt
      obtain ⟨d0, d1, g0, g1⟩ := T2.facts
      go_wp2_with fail
      refine bodyPost_ret (v := .agg #[.bool (sg (sv s N + sv s' M)), .slice A2 (mg (sv s N + sv s' M)).length c2]) (by simp [results, Tryd.results52, go_sem, d0, d1]) rfl ?_
      exact zout_put T2 hr2 hb3.size hc2 (below_next hb2 hb3 (by omega)) (Nat.le_refl _)
  · have HZ : Hid (sv s N + sv s' M = sv s (N + M)) := Lib.hid (sv_eq s s' hs N M)
    have Hs := Lib.hid hs
    go_enter Tryd.func52, Tryd.ntmps52
    go_wp2_with fail
    refine (add_any A A' (digs N) (digs M) _ _ _ _ B B' _ (h.alloc hB _) (h'.alloc hB' _) (by simp; omega) (by simp; omega) Hn.out Hm.out (by omega) (by omega) hc hc').mono ?_
    rintro e w1 ⟨A1, c1, rfl, hc1, hr1, hb1⟩
    rw [VN.out, VM.out] at *
    obtain ⟨t1, hs1, hb2⟩ := box1 hb1
    go_wp2_with fail
    refine (signed_any s A1 (N + M) _ c1 _ (sv s N + sv s' M) _ hr1 (Nat.le_refl _) rfl hc1 HZ.out).mono ?_
    rintro e w2 ⟨A2, c2, rfl, hc2, hr2, hb3⟩
    have T2 := t1.below hb3 t1.lt
    obtain ⟨d0, d1, g0, g1⟩ := T2.facts
    go_wp2_with fail
    refine bodyPost_ret (v := .agg #[.bool (sg (sv s N + sv s' M)), .slice A2 (mg (sv s N + sv s' M)).length c2]) (by simp [results, Tryd.results52, go_sem, d0, d1]) rfl ?_
    exact zout_put T2 hr2 hb3.size hc2 (below_next hb2 hb3 (by omega)) (Nat.le_refl _)
end Go.Proofs.YtgpckcikkppfjaaDoor
/-! Walk of integer.Add. -/
namespace Go.Proofs.YtgpckcikkppfjaaDoor
open Go Go.RowKit Lw
attribute [local go_sem ↓] Go.wp_at_zero Go.wp_at_succ

set_option maxHeartbeats 3200000 in
theorem adds_any (s s' : Bool) (A A' : Option Addr) (ns ms : List Nat) (n m c c' B B' : Nat) (w : World) (h : Rd w B A ns) (h' : Rd w B' A' ms) (hB : B ≤ w.heap.size) (hB' : B' ≤ w.heap.size)
    (hn : ns.length = n) (hm : ms.length = m) (hl : n ≤ 8388608) (hl' : m ≤ 8388608) (hc : n ≤ c) (hc' : m ≤ c') :
    Calls Tryd.prog 24 #[.agg #[.bool s, .slice A n c], .agg #[.bool s', .slice A' m c']] w (ZOut w (zv s ns + zv s' ms)) := by
  have hlz := zv_len (s := s) h.wds
  have hlz' := zv_len (s := s') h'.wds
  rw [hn] at hlz
  rw [hm] at hlz'
  go_enter Tryd.func24, Tryd.ntmps24
  go_upto_region 1 with fail
  obtain ⟨T1, T2, T3, _, hb0⟩ := box3 (Below.refl _ (((w.alloc (.cells #[.bool s, .slice A n c] 24)).alloc (.cells #[.bool s', .slice A' m c'] 24)).alloc (.cells #[.bool false, .slice none 0 0] 24)))
  have R1 := h.below (hb0.mono hB)
  have R2 := h'.below (hb0.mono hB')
  generalize hW : (((w.alloc (.cells #[.bool s, .slice A n c] 24)).alloc (.cells #[.bool s', .slice A' m c'] 24)).alloc (.cells #[.bool false, .slice none 0 0] 24)) = W at *
  clear hW
  have l3 := T3.lt
  obtain ⟨c10, c11, f10, f11⟩ := T1.facts
  obtain ⟨c20, c21, f20, f21⟩ := T2.facts
  go_cut [] (fun wc => ∃ A1 c1 A2 c2, Two wc w.heap.size 24 (.bool (sg (zv s ns))) (.slice A1 (mg (zv s ns)).length c1) ∧ Two wc (w.heap.size + 1) 24 (.bool (sg (zv s' ms))) (.slice A2 (mg (zv s' ms)).length c2) ∧
    Two wc (w.heap.size + 1 + 1) 24 (.bool false) (.slice none 0 0) ∧ Rd wc B A1 (mg (zv s ns)) ∧ Rd wc B' A2 (mg (zv s' ms)) ∧ Below w.heap.size w wc ∧ (mg (zv s ns)).length ≤ c1 ∧ (mg (zv s' ms)).length ≤ c2)
  case first =>
    go_region_with (first
      | (go_at_call_of 28 (Value.agg #[Value.bool s, Value.slice A n c]); refine (known_any s A ns n c B _ (by first | exact R1.drew | exact R1.next K2 (by omega)) (by first | (simp; omega) | (have := K2.size; omega)) hn (by omega) hc).mono ?_; rintro e w1 ⟨A1, c1, rfl, hc1, hr1, hb1⟩; have K1 : Below W.heap.size W w1 := (by first | exact next0 hb1 | exact next1 K2 hb1); obtain ⟨d10, d11, g10, g11⟩ := (T1.next K1).facts; obtain ⟨d20, d21, g20, g21⟩ := (T2.next K1).facts)
      | (go_at_call_of 28 (Value.agg #[Value.bool s', Value.slice A' m c']); refine (known_any s' A' ms m c' B' _ (by first | exact R2.drew | exact R2.next K1 (by omega)) (by first | (simp; omega) | (have := K1.size; omega)) hm (by omega) hc').mono ?_; rintro e w2 ⟨A2, c2, rfl, hc2, hr2, hb2⟩; have K2 : Below W.heap.size W w2 := (by first | exact next0 hb2 | exact next1 K1 hb2); obtain ⟨i10, i11, j10, j11⟩ := (T1.next K2).facts; obtain ⟨i20, i21, j20, j21⟩ := (T2.next K2).facts))
    all_goals
      obtain ⟨P1, P2, P3, P4, P5⟩ : _ ∧ _ ∧ _ ∧ _ ∧ _ := by
        first
          | exact pair_put (sg (zv s ns)) (sg (zv s' ms)) (.slice A1 (mg (zv s ns)).length c1) (.slice A2 (mg (zv s' ms)).length c2) (T1.next K2) (T2.next K2) (by omega) (hr1.next hb2 (by have := K1.size; omega)) hr2 (below_next hb0 K2 (by omega)) (Nat.le_refl _) (by omega)
          | exact pair_put (sg (zv s ns)) (sg (zv s' ms)) (.slice A1 (mg (zv s ns)).length c1) (.slice A2 (mg (zv s' ms)).length c2) (T1.next K1) (T2.next K1) (by omega) hr1 (hr2.next hb1 (by have := K2.size; omega)) (below_next hb0 K1 (by omega)) (Nat.le_refl _) (by omega)
      clear d10 d11 g10 g11 d20 d21 g20 g21 i10 i11 i20 i21 j10 j11 j20 j21 c10 c11 c20 c21 f10 f11 f20 f21
      go_wp2_with fail
      go_meet
      have N01 := (T3.next K1)
      have N02 := (T3.next K2)
      exact ⟨A1, c1, A2, c2, P1, P2, by first | exact N02.far4 (by omega) (by omega) _ _ _ _ | exact N01.far4 (by omega) (by omega) _ _ _ _, P3, P4, P5, hc1, hc2⟩
  case rest =>
    obtain ⟨A1, c1, A2, c2, Q1, Q2, Q3, r1, r2, hbc, hc1, hc2⟩ := hcut
    clear T1 T2 T3 R1 R2 hb0 l3 c10 c11 c20 c21 f10 f11 f20 f21
    obtain ⟨c10, c11, f10, f11⟩ := Q1.facts
    obtain ⟨c20, c21, f20, f21⟩ := Q2.facts
    go_wp2_with fail
    refine (sum_any (sg (zv s ns)) (sg (zv s' ms)) A1 A2 (zv s ns).natAbs (zv s' ms).natAbs _ _ c1 c2 B B' _ r1 r2 (by have := hbc.size; omega) (by have := hbc.size; omega) rfl rfl (Nat.le_trans hlz hl) (Nat.le_trans hlz' hl') hc1 hc2).mono ?_
    rw [sv_sg, sv_sg]
    rintro e w3 ⟨A3, c3, rfl, hc3, hr3, hb3⟩
    have U3 := Q3.next hb3
    obtain ⟨d0, d1, g0, g1⟩ := U3.facts
    go_wp2_with fail
    refine bodyPost_ret (v := .agg #[.bool (sg (zv s ns + zv s' ms)), .slice A3 (mg (zv s ns + zv s' ms)).length c3]) (by simp [results, Tryd.results24, go_sem, d0, d1]) rfl ?_
    exact zout_put U3 hr3 (Nat.le_refl _) hc3 (below_next hbc hb3 (Nat.le_refl _)) (by omega)
end Go.Proofs.YtgpckcikkppfjaaDoor
/-! Walk of integer.Sub. -/
namespace Go.Proofs.YtgpckcikkppfjaaDoor
open Go Go.RowKit Lw
attribute [local go_sem ↓] Go.wp_at_zero Go.wp_at_succ

end Go.Proofs.YtgpckcikkppfjaaDoor
