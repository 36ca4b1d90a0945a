/- Walk of integer.Mul. -/
import Derived.Test.YtgpckcikkppfjaaDoorSum
import Derived.Deep.RegionWith
import Derived.Deep.DeepCutAuto
import Derived.Deep.RegionHeld3
namespace Lw
theorem mul_form (a b : Int) : a * b = if (sg a != sg b) = true then -((a.natAbs * b.natAbs : Nat) : Int) else ((a.natAbs * b.natAbs : Nat) : Int) := by
  have ha := sg_mg a
  have hb := sg_mg b
  rw [val_mg] at ha hb
  rw [Int.natCast_mul]
  generalize (a.natAbs : Int) = x at *
  generalize (b.natAbs : Int) = y at *
  cases h1 : sg a <;> cases h2 : sg b <;> rw [h1] at ha <;> rw [h2] at hb <;> simp at ha hb <;> rw [ha, hb] <;> simp [Int.neg_mul, Int.mul_neg]
end Lw
namespace Go.Proofs.YtgpckcikkppfjaaDoor
open Go Go.RowKit Lw
attribute [local go_sem ↓] Go.wp_at_zero Go.wp_at_succ

set_option maxHeartbeats 3200000 in
theorem muls_any (s s' : Bool) (A A' : Option Addr) (ns ms : List Nat) (n m c c' B B' : Nat) (w : World) (h : Rd w B A ns) (h' : Rd w B' A' ms) (hB : B ≤ w.heap.size) (hB' : B' ≤ w.heap.size)
    (hn : ns.length = n) (hm : ms.length = m) (hl : n ≤ 8388608) (hl' : m ≤ 8388608) (hc : n ≤ c) (hc' : m ≤ c') :
    Calls Tryd.prog 25 #[.agg #[.bool s, .slice A n c], .agg #[.bool s', .slice A' m c']] w (ZOut w (zv s ns * zv s' ms)) := by
  have hlz := zv_len (s := s) h.wds
  have hlz' := zv_len (s := s') h'.wds
  rw [hn] at hlz
  rw [hm] at hlz'
  go_enter Tryd.func25, Tryd.ntmps25
  go_upto_region 1 with fail
  obtain ⟨T1, T2, T3, _, hb0⟩ := box3 (Below.refl _ (((w.alloc (.cells #[.bool s, .slice A n c] 24)).alloc (.cells #[.bool s', .slice A' m c'] 24)).alloc (.cells #[.bool false, .slice none 0 0] 24)))
  have R1 := h.below (hb0.mono hB)
  have R2 := h'.below (hb0.mono hB')
  generalize hW : (((w.alloc (.cells #[.bool s, .slice A n c] 24)).alloc (.cells #[.bool s', .slice A' m c'] 24)).alloc (.cells #[.bool false, .slice none 0 0] 24)) = W at *
  clear hW
  have l3 := T3.lt
  obtain ⟨c10, c11, f10, f11⟩ := T1.facts
  obtain ⟨c20, c21, f20, f21⟩ := T2.facts
  go_cut [] (fun wc => ∃ A1 c1 A2 c2, Two wc w.heap.size 24 (.bool (sg (zv s ns))) (.slice A1 (mg (zv s ns)).length c1) ∧ Two wc (w.heap.size + 1) 24 (.bool (sg (zv s' ms))) (.slice A2 (mg (zv s' ms)).length c2) ∧
    Two wc (w.heap.size + 1 + 1) 24 (.bool false) (.slice none 0 0) ∧ Rd wc B A1 (mg (zv s ns)) ∧ Rd wc B' A2 (mg (zv s' ms)) ∧ Below w.heap.size w wc ∧ (mg (zv s ns)).length ≤ c1 ∧ (mg (zv s' ms)).length ≤ c2)
  case first =>
    go_region_with (first
      | (go_at_call_of 28 (Value.agg #[Value.bool s, Value.slice A n c]); refine (known_any s A ns n c B _ (by first | exact R1.drew | exact R1.next K2 (by omega)) (by first | (simp; omega) | (have := K2.size; omega)) hn (by omega) hc).mono ?_; rintro e w1 ⟨A1, c1, rfl, hc1, hr1, hb1⟩; have K1 : Below W.heap.size W w1 := (by first | exact next0 hb1 | exact next1 K2 hb1); obtain ⟨d10, d11, g10, g11⟩ := (T1.next K1).facts; obtain ⟨d20, d21, g20, g21⟩ := (T2.next K1).facts)
      | (go_at_call_of 28 (Value.agg #[Value.bool s', Value.slice A' m c']); refine (known_any s' A' ms m c' B' _ (by first | exact R2.drew | exact R2.next K1 (by omega)) (by first | (simp; omega) | (have := K1.size; omega)) hm (by omega) hc').mono ?_; rintro e w2 ⟨A2, c2, rfl, hc2, hr2, hb2⟩; have K2 : Below W.heap.size W w2 := (by first | exact next0 hb2 | exact next1 K1 hb2); obtain ⟨i10, i11, j10, j11⟩ := (T1.next K2).facts; obtain ⟨i20, i21, j20, j21⟩ := (T2.next K2).facts))
    all_goals
      obtain ⟨P1, P2, P3, P4, P5⟩ : _ ∧ _ ∧ _ ∧ _ ∧ _ := by
        first
          | exact pair_put (sg (zv s ns)) (sg (zv s' ms)) (.slice A1 (mg (zv s ns)).length c1) (.slice A2 (mg (zv s' ms)).length c2) (T1.next K2) (T2.next K2) (by omega) (hr1.next hb2 (by have := K1.size; omega)) hr2 (below_next hb0 K2 (by omega)) (Nat.le_refl _) (by omega)
          | exact pair_put (sg (zv s ns)) (sg (zv s' ms)) (.slice A1 (mg (zv s ns)).length c1) (.slice A2 (mg (zv s' ms)).length c2) (T1.next K1) (T2.next K1) (by omega) hr1 (hr2.next hb1 (by have := K2.size; omega)) (below_next hb0 K1 (by omega)) (Nat.le_refl _) (by omega)
      clear d10 d11 g10 g11 d20 d21 g20 g21 i10 i11 i20 i21 j10 j11 j20 j21 c10 c11 c20 c21 f10 f11 f20 f21
      go_wp2_with fail
      go_meet
      have N01 := (T3.next K1)
      have N02 := (T3.next K2)
      exact ⟨A1, c1, A2, c2, P1, P2, by first | exact N02.far4 (by omega) (by omega) _ _ _ _ | exact N01.far4 (by omega) (by omega) _ _ _ _, P3, P4, P5, hc1, hc2⟩
  case rest =>
    obtain ⟨A1, c1, A2, c2, Q1, Q2, Q3, r1, r2, hbc, hc1, hc2⟩ := hcut
    clear T1 T2 T3 R1 R2 hb0 l3 c10 c11 c20 c21 f10 f11 f20 f21
    obtain ⟨c10, c11, f10, f11⟩ := Q1.facts
    obtain ⟨c20, c21, f20, f21⟩ := Q2.facts
    go_wp2_with fail
    have l3 := Q3.lt
    have HM : Hid (val (mg (zv s ns)) * val (mg (zv s' ms)) = (zv s ns).natAbs * (zv s' ms).natAbs) := Lib.hid (by rw [val_mg, val_mg])
    have HF : Hid (zv s ns * zv s' ms = if (sg (zv s ns) != sg (zv s' ms)) = true then -(((zv s ns).natAbs * (zv s' ms).natAbs : Nat) : Int) else (((zv s ns).natAbs * (zv s' ms).natAbs : Nat) : Int)) := Lib.hid (mul_form _ _)
    go_region_held3 (fun w' => w'.cell? ⟨w.heap.size, 0, none⟩ = some (.bool (sg (zv s ns))) ∧ w'.cell? ⟨w.heap.size, 1, none⟩ = some (.slice A1 (mg (zv s ns)).length c1) ∧ w'.cell? ⟨w.heap.size + 1, 0, none⟩ = some (.bool (sg (zv s' ms))) ∧ w'.cell? ⟨w.heap.size + 1, 1, none⟩ = some (.slice A2 (mg (zv s' ms)).length c2)) (first | go_keep | (go_split_ands; refine ⟨hq0 _ _, hq1 _ _, ?_, ?_⟩ <;> go_keep))
      (first
        | (go_at_call 53; refine (multiply_any A1 A2 (mg (zv s ns)) (mg (zv s' ms)) _ _ c1 c2 B B' _ (by first | exact r1.drew | exact r1) (by first | exact r2.drew | exact r2) (by simp; omega) (by simp; omega) rfl rfl (by omega) (by omega)).mono ?_; rintro e w2 ⟨A3, c3, rfl, hc3, hr3, hb3⟩; rw [HM.out] at *; have K3 := next0 hb3; obtain ⟨d10, d11, g10, g11⟩ := (Q1.next K3).facts; obtain ⟨d20, d21, g20, g21⟩ := (Q2.next K3).facts)
        | (go_at_call 32; refine (signed_any _ A3 _ _ c3 _ (zv s ns * zv s' ms) _ hr3 (Nat.le_refl _) rfl hc3 HF.out).mono ?_; rintro e w3 ⟨A4, c4, rfl, hc4, hr4, hb4⟩; have K4 := next1 K3 hb4; obtain ⟨i10, i11, j10, j11⟩ := (Q1.next K4).facts; obtain ⟨i20, i21, j20, j21⟩ := (Q2.next K4).facts; have U3 := Q3.next K4; obtain ⟨i30, i31, j30, j31⟩ := U3.facts; have hq0 := fun u v => (((Q1.next K4).far (p := ⟨w.heap.size + 1 + 1, 0, none⟩) (by simp; omega) u).far (p := ⟨w.heap.size + 1 + 1, 1, none⟩) (by simp; omega) v).facts.1; have hq1 := fun u v => (((Q1.next K4).far (p := ⟨w.heap.size + 1 + 1, 0, none⟩) (by simp; omega) u).far (p := ⟨w.heap.size + 1 + 1, 1, none⟩) (by simp; omega) v).facts.2.1))
    go_wp2
    refine bodyPost_ret (v := .agg #[.bool (sg (zv s ns * zv s' ms)), .slice A4 (mg (zv s ns * zv s' ms)).length c4]) (by simp [results, Tryd.results25, go_sem, i30, i31]) rfl ?_
    exact zout_put U3 hr4 hb4.size hc4 (below_next hbc K4 (Nat.le_refl _)) (by omega)
end Go.Proofs.YtgpckcikkppfjaaDoor
