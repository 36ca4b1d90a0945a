/- Walk of integer.Cmp. -/
import Derived.Test.YtgpckcikkppfjaaDoorMuls
import Derived.Deep.RegionWith
import Derived.Deep.DeepCutAuto
namespace Lw
def cmpI (a b : Int) : Int := if a < b then -1 else if a = b then 0 else 1
theorem cmpI_pp {a b : Int} (ha : sg a = false) (hb : sg b = false) : cmpN a.natAbs b.natAbs = cmpI a b := by
  unfold sg at *; simp at ha hb; unfold cmpN cmpI; split <;> split <;> (try split) <;> (try split) <;> omega
theorem cmpI_mm {a b : Int} (ha : sg a = true) (hb : sg b = true) : cmpN b.natAbs a.natAbs = cmpI a b := by
  unfold sg at *; simp at ha hb; unfold cmpN cmpI; split <;> split <;> (try split) <;> (try split) <;> omega
theorem cmpI_pm {a b : Int} (ha : sg a = false) (hb : sg b = true) : 1 = cmpI a b := by
  unfold sg at *; simp at ha hb; unfold cmpI; rw [if_neg (by omega), if_neg (by omega)]
theorem cmpI_mp {a b : Int} (ha : sg a = true) (hb : sg b = false) : -1 = cmpI a b := by
  unfold sg at *; simp at ha hb; unfold cmpI; rw [if_pos (by omega)]
end Lw
namespace Go.Proofs.YtgpckcikkppfjaaDoor
open Go Go.RowKit Lw
attribute [local go_sem ↓] Go.wp_at_zero Go.wp_at_succ

set_option maxHeartbeats 3200000 in
theorem cmps_any (s s' : Bool) (A A' : Option Addr) (ns ms : List Nat) (n m c c' B B' : Nat) (w : World) (h : Rd w B A ns) (h' : Rd w B' A' ms) (hB : B ≤ w.heap.size) (hB' : B' ≤ w.heap.size)
    (hn : ns.length = n) (hm : ms.length = m) (hl : n ≤ 8388608) (hl' : m ≤ 8388608) (hc : n ≤ c) (hc' : m ≤ c') :
    Calls Tryd.prog 23 #[.agg #[.bool s, .slice A n c], .agg #[.bool s', .slice A' m c']] w fun e w' => e = .returned (.int .i64 (cmpI (zv s ns) (zv s' ms))) ∧ Below w.heap.size w w' := by
  have hlz := zv_len (s := s) h.wds
  have hlz' := zv_len (s := s') h'.wds
  rw [hn] at hlz
  rw [hm] at hlz'
  go_enter Tryd.func23, Tryd.ntmps23
  go_upto_region 1 with fail
  obtain ⟨T1, T2, _, hb0⟩ := box2 (Below.refl _ ((w.alloc (.cells #[.bool s, .slice A n c] 24)).alloc (.cells #[.bool s', .slice A' m c'] 24)))
  have R1 := h.below (hb0.mono hB)
  have R2 := h'.below (hb0.mono hB')
  generalize hW : ((w.alloc (.cells #[.bool s, .slice A n c] 24)).alloc (.cells #[.bool s', .slice A' m c'] 24)) = W at *
  clear hW
  have l3 := T2.lt
  obtain ⟨c10, c11, f10, f11⟩ := T1.facts
  obtain ⟨c20, c21, f20, f21⟩ := T2.facts
  go_cut [] (fun wc => ∃ A1 c1 A2 c2, Two wc w.heap.size 24 (.bool (sg (zv s ns))) (.slice A1 (mg (zv s ns)).length c1) ∧ Two wc (w.heap.size + 1) 24 (.bool (sg (zv s' ms))) (.slice A2 (mg (zv s' ms)).length c2) ∧
    Rd wc B A1 (mg (zv s ns)) ∧ Rd wc B' A2 (mg (zv s' ms)) ∧ Below w.heap.size w wc ∧ (mg (zv s ns)).length ≤ c1 ∧ (mg (zv s' ms)).length ≤ c2)
  case first =>
    go_region_with (first
      | (go_at_call_of 28 (Value.agg #[Value.bool s, Value.slice A n c]); refine (known_any s A ns n c B _ (by first | exact R1.drew | exact R1.next K2 (by omega)) (by first | (simp; omega) | (have := K2.size; omega)) hn (by omega) hc).mono ?_; rintro e w1 ⟨A1, c1, rfl, hc1, hr1, hb1⟩; have K1 : Below W.heap.size W w1 := (by first | exact next0 hb1 | exact next1 K2 hb1); obtain ⟨d10, d11, g10, g11⟩ := (T1.next K1).facts; obtain ⟨d20, d21, g20, g21⟩ := (T2.next K1).facts)
      | (go_at_call_of 28 (Value.agg #[Value.bool s', Value.slice A' m c']); refine (known_any s' A' ms m c' B' _ (by first | exact R2.drew | exact R2.next K1 (by omega)) (by first | (simp; omega) | (have := K1.size; omega)) hm (by omega) hc').mono ?_; rintro e w2 ⟨A2, c2, rfl, hc2, hr2, hb2⟩; have K2 : Below W.heap.size W w2 := (by first | exact next0 hb2 | exact next1 K1 hb2); obtain ⟨i10, i11, j10, j11⟩ := (T1.next K2).facts; obtain ⟨i20, i21, j20, j21⟩ := (T2.next K2).facts))
    all_goals
      obtain ⟨P1, P2, P3, P4, P5⟩ : _ ∧ _ ∧ _ ∧ _ ∧ _ := by
        first
          | exact pair_put (sg (zv s ns)) (sg (zv s' ms)) (.slice A1 (mg (zv s ns)).length c1) (.slice A2 (mg (zv s' ms)).length c2) (T1.next K2) (T2.next K2) (by omega) (hr1.next hb2 (by have := K1.size; omega)) hr2 (below_next hb0 K2 (by omega)) (Nat.le_refl _) (by omega)
          | exact pair_put (sg (zv s ns)) (sg (zv s' ms)) (.slice A1 (mg (zv s ns)).length c1) (.slice A2 (mg (zv s' ms)).length c2) (T1.next K1) (T2.next K1) (by omega) hr1 (hr2.next hb1 (by have := K2.size; omega)) (below_next hb0 K1 (by omega)) (Nat.le_refl _) (by omega)
      clear d10 d11 g10 g11 d20 d21 g20 g21 i10 i11 i20 i21 j10 j11 j20 j21 c10 c11 c20 c21 f10 f11 f20 f21
      go_wp2_with fail
      go_meet
      exact ⟨A1, c1, A2, c2, P1, P2, P3, P4, P5, hc1, hc2⟩
  case rest =>
    obtain ⟨A1, c1, A2, c2, Q1, Q2, r1, r2, hbc, hc1, hc2⟩ := hcut
    clear T1 T2 R1 R2 hb0 l3 c10 c11 c20 c21 f10 f11 f20 f21
    obtain ⟨c10, c11, f10, f11⟩ := Q1.facts
    obtain ⟨c20, c21, f20, f21⟩ := Q2.facts
    have e1 := val_mg (zv s ns)
    have e2 := val_mg (zv s' ms)
    have E1 := Lib.hid e1
    have E2 := Lib.hid e2
    clear e1 e2
    have hsz := hbc.size
    cases ha : sg (zv s ns) <;> cases hb : sg (zv s' ms)
    · have HC : Hid (cmpN (zv s ns).natAbs (zv s' ms).natAbs = cmpI (zv s ns) (zv s' ms)) := Lib.hid (cmpI_pp ha hb)
      go_wp2_with fail
      refine (compare_any A1 A2 (mg (zv s ns)) (mg (zv s' ms)) _ _ c1 c2 B B' _ r1 r2 (mg_trm _) (mg_trm _) rfl rfl (by omega) (by omega)).mono ?_
      rintro e w3 ⟨rfl, q, rfl⟩
      go_wp2_with fail
      go_ret
      exact ⟨ret_int (by rw [E1.out, E2.out, HC.out]), below_next hbc (below_drewN' _ _ _) (Nat.le_refl _)⟩
    · have HC : Hid (1 = cmpI (zv s ns) (zv s' ms)) := Lib.hid (cmpI_pm ha hb)
      go_wp2_with fail
      go_ret
      exact ⟨ret_int HC.out, hbc⟩
    · have HC : Hid (-1 = cmpI (zv s ns) (zv s' ms)) := Lib.hid (cmpI_mp ha hb)
      go_wp2_with fail
      go_ret
      exact ⟨ret_int HC.out, hbc⟩
    · have HC : Hid (cmpN (zv s' ms).natAbs (zv s ns).natAbs = cmpI (zv s ns) (zv s' ms)) := Lib.hid (cmpI_mm ha hb)
      go_wp2_with fail
      refine (compare_any A2 A1 (mg (zv s' ms)) (mg (zv s ns)) _ _ c2 c1 B' B _ r2 r1 (mg_trm _) (mg_trm _) rfl rfl (by omega) (by omega)).mono ?_
      rintro e w3 ⟨rfl, q, rfl⟩
      go_wp2_with fail
      go_ret
      exact ⟨ret_int (by rw [E1.out, E2.out, HC.out]), below_next hbc (below_drewN' _ _ _) (Nat.le_refl _)⟩
end Go.Proofs.YtgpckcikkppfjaaDoor
