/- Walks of integer: sum, Add, Sub. -/
import Derived.Test.YtajlehaminddiaaDoorNeg
namespace Lw
def sv (s : Bool) (N : Nat) : Int := if s then -(N : Int) else (N : Int)
theorem sv_sg (z : Int) : sv (sg z) z.natAbs = z := by have := sg_mg z; rw [val_mg] at this; exact this.symm
theorem sv_not_sg (z : Int) : sv (!sg z) z.natAbs = -z := (neg_form z).symm
theorem sv_eq (s s' : Bool) (h : (s == s') = true) (N M : Nat) : sv s N + sv s' M = sv s (N + M) := by
  cases s <;> cases s' <;> simp [sv] at * <;> omega
theorem sv_ne (s s' : Bool) (h : (s == s') = false) {N M : Nat} (hle : M ≤ N) : sv s N + sv s' M = sv s (N - M) := by
  cases s <;> cases s' <;> simp [sv] at * <;> omega
theorem sv_ne' (s s' : Bool) (h : (s == s') = false) {N M : Nat} (hle : N ≤ M) : sv s N + sv s' M = sv s' (M - N) := by
  cases s <;> cases s' <;> simp [sv] at * <;> omega
theorem cmpN_neg {a b : Nat} (h : a < b) : cmpN a b < 0 := by rw [cmpN_lt h]; omega
theorem cmpN_nonneg {a b : Nat} (h : b ≤ a) : ¬ cmpN a b < 0 := by unfold cmpN; rw [if_neg (by omega)]; split <;> omega
end Lw
namespace Go.Proofs.YtajlehaminddiaaDoor
open Go Go.RowKit Lw
set_option maxHeartbeats 1600000 in
theorem sum_any (s s' : Bool) (A A' : Option Addr) (N M : Nat) (n m c c' B B' : Nat) (w : World) (h : Rd w B A (digs N)) (h' : Rd w B' A' (digs M)) (hB : B ≤ w.heap.size) (hB' : B' ≤ w.heap.size)
    (hn : (digs N).length = n) (hm : (digs M).length = m) (hl : n ≤ 8388608) (hl' : m ≤ 8388608) (hc : n ≤ c) (hc' : m ≤ c') :
    Calls Tryd.prog 57 #[.bool s, .slice A n c, .bool s', .slice A' m c'] w (ZOut w (sv s N + sv s' M)) := by
  have vN := val_digs N
  have vM := val_digs M
  have Hn := Lib.hid hn
  have Hm := Lib.hid hm
  have VN := Lib.hid vN
  have VM := Lib.hid vM
  clear hn hm vN vM
  cases hs : (s == s')
  · rcases Nat.lt_or_ge N M with hlt | hge
    · have HZ : Hid (sv s N + sv s' M = sv s' (M - N)) := Lib.hid (sv_ne' s s' hs (Nat.le_of_lt hlt))
      have hcm := cmpN_neg hlt
      go_enter Tryd.func57, Tryd.ntmps57
      go_wp2_with fail
      refine (compare_any A A' (digs N) (digs M) _ _ _ _ B B' _ (h.alloc hB _) (h'.alloc hB' _) (trm_digs _) (trm_digs _) Hn.out Hm.out (by omega) (by omega)).mono ?_
      rintro e w1 ⟨rfl, q, hw1⟩
      rw [VN.out, VM.out]
      have hb0 : Below (w.alloc (.cells #[.bool false, .slice none 0 0] 24)).heap.size (w.alloc (.cells #[.bool false, .slice none 0 0] 24)) w1 := by
        rw [hw1]; exact below_drewN' _ _ _
      obtain ⟨t0, hs0, hb00⟩ := box1 hb0
      have h1 := h.below (hb00.mono hB)
      have h1' := h'.below (hb00.mono hB')
      clear hw1 hb0
      go_wp2_with fail
      refine (subtract_any A' A (digs M) (digs N) _ _ _ _ B' B _ h1' h1 (by omega) (by omega) Hm.out Hn.out (by omega) (by omega) (by rw [VN.out, VM.out]; omega)).mono ?_
      rintro e w2 ⟨A1, c1, rfl, hc1, hr1, hb1⟩
      rw [VN.out, VM.out] at *
      have t1 := t0.below hb1 t0.lt
      have hb2 := below_next hb00 hb1 (by omega)
      have hsz := hb1.size
      go_wp2_with fail
      refine (signed_any s' A1 (M - N) _ c1 _ (sv s N + sv s' M) _ hr1 (Nat.le_refl _) rfl hc1 HZ.out).mono ?_
      rintro e w3 ⟨A2, c2, rfl, hc2, hr2, hb3⟩
      have T2 := t1.below hb3 t1.lt
      obtain ⟨d0, d1, g0, g1⟩ := T2.facts
      go_wp2_with fail
      refine bodyPost_ret (v := .agg #[.bool (sg (sv s N + sv s' M)), .slice A2 (mg (sv s N + sv s' M)).length c2]) (by simp [results, Tryd.results57, go_sem, d0, d1]) rfl ?_
      exact zout_put T2 hr2 hb3.size hc2 (below_next hb2 hb3 (by omega)) (Nat.le_refl _)
    · have HZ : Hid (sv s N + sv s' M = sv s (N - M)) := Lib.hid (sv_ne s s' hs hge)
      have hcm := cmpN_nonneg hge
      go_enter Tryd.func57, Tryd.ntmps57
      go_wp2_with fail
      refine (compare_any A A' (digs N) (digs M) _ _ _ _ B B' _ (h.alloc hB _) (h'.alloc hB' _) (trm_digs _) (trm_digs _) Hn.out Hm.out (by omega) (by omega)).mono ?_
      rintro e w1 ⟨rfl, q, hw1⟩
      rw [VN.out, VM.out]
      have hb0 : Below (w.alloc (.cells #[.bool false, .slice none 0 0] 24)).heap.size (w.alloc (.cells #[.bool false, .slice none 0 0] 24)) w1 := by
        rw [hw1]; exact below_drewN' _ _ _
      obtain ⟨t0, hs0, hb00⟩ := box1 hb0
      have h1 := h.below (hb00.mono hB)
      have h1' := h'.below (hb00.mono hB')
      clear hw1 hb0
      go_wp2_with fail
      refine (subtract_any A A' (digs N) (digs M) _ _ _ _ B B' _ h1 h1' (by omega) (by omega) Hn.out Hm.out (by omega) (by omega) (by rw [VN.out, VM.out]; omega)).mono ?_
      rintro e w2 ⟨A1, c1, rfl, hc1, hr1, hb1⟩
      rw [VN.out, VM.out] at *
      have t1 := t0.below hb1 t0.lt
      have hb2 := below_next hb00 hb1 (by omega)
      have hsz := hb1.size
      go_wp2_with fail
      refine (signed_any s A1 (N - M) _ c1 _ (sv s N + sv s' M) _ hr1 (Nat.le_refl _) rfl hc1 HZ.out).mono ?_
      rintro e w3 ⟨A2, c2, rfl, hc2, hr2, hb3⟩
      have T2 := t1.below hb3 t1.lt
      obtain ⟨d0, d1, g0, g1⟩ := T2.facts
      go_wp2_with fail
      refine bodyPost_ret (v := .agg #[.bool (sg (sv s N + sv s' M)), .slice A2 (mg (sv s N + sv s' M)).length c2]) (by simp [results, Tryd.results57, go_sem, d0, d1]) rfl ?_
      exact zout_put T2 hr2 hb3.size hc2 (below_next hb2 hb3 (by omega)) (Nat.le_refl _)
  · have HZ : Hid (sv s N + sv s' M = sv s (N + M)) := Lib.hid (sv_eq s s' hs N M)
    have Hs := Lib.hid hs
    go_enter Tryd.func57, Tryd.ntmps57
    go_wp2_with fail
    refine (add_any A A' (digs N) (digs M) _ _ _ _ B B' _ (h.alloc hB _) (h'.alloc hB' _) (by simp; omega) (by simp; omega) Hn.out Hm.out (by omega) (by omega) hc hc').mono ?_
    rintro e w1 ⟨A1, c1, rfl, hc1, hr1, hb1⟩
    rw [VN.out, VM.out] at *
    obtain ⟨t1, hs1, hb2⟩ := box1 hb1
    go_wp2_with fail
    refine (signed_any s A1 (N + M) _ c1 _ (sv s N + sv s' M) _ hr1 (Nat.le_refl _) rfl hc1 HZ.out).mono ?_
    rintro e w2 ⟨A2, c2, rfl, hc2, hr2, hb3⟩
    have T2 := t1.below hb3 t1.lt
    obtain ⟨d0, d1, g0, g1⟩ := T2.facts
    go_wp2_with fail
    refine bodyPost_ret (v := .agg #[.bool (sg (sv s N + sv s' M)), .slice A2 (mg (sv s N + sv s' M)).length c2]) (by simp [results, Tryd.results57, go_sem, d0, d1]) rfl ?_
    exact zout_put T2 hr2 hb3.size hc2 (below_next hb2 hb3 (by omega)) (Nat.le_refl _)
end Go.Proofs.YtajlehaminddiaaDoor
