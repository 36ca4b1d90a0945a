/- Walk of integer.Div. -/
import Derived.Test.YtobffffcihlkbaaDoorDivide
import Derived.Deep.RegionWith
import Derived.Deep.DeepCutAuto
namespace Lw
theorem ediv_unique {a b q r : Int} (hb : b ≠ 0) (h : r + b * q = a) (h0 : 0 ≤ r) (h1 : r < b.natAbs) : a / b = q ∧ a % b = r := by
  rcases Int.lt_or_gt_of_ne hb with h2 | h2
  · rw [Int.ediv_emod_unique' h2]; exact ⟨h, h0, by omega⟩
  · rw [Int.ediv_emod_unique h2]; exact ⟨h, h0, by omega⟩
theorem ediv_form {z z' : Int} (h : z' ≠ 0) :
    z.natAbs % z'.natAbs < z'.natAbs ∧
    (sg z = true → z.natAbs % z'.natAbs ≠ 0 → z / z' = sv (sg z != sg z') (z.natAbs / z'.natAbs + 1) ∧ z % z' = ((z'.natAbs - z.natAbs % z'.natAbs : Nat) : Int)) ∧
    ((sg z = false ∨ z.natAbs % z'.natAbs = 0) → z / z' = sv (sg z != sg z') (z.natAbs / z'.natAbs) ∧ z % z' = ((z.natAbs % z'.natAbs : Nat) : Int)) := by
  have hpos : 0 < z'.natAbs := by omega
  have hR := Nat.mod_lt z.natAbs hpos
  have hdm := Nat.mod_add_div z.natAbs z'.natAbs
  have e1 := sg_mg z
  have e2 := sg_mg z'
  rw [val_mg] at e1 e2
  generalize z.natAbs % z'.natAbs = R at *
  generalize z.natAbs / z'.natAbs = Q at *
  generalize hN : z.natAbs = N at *
  generalize hM : z'.natAbs = M at *
  have hc : (N : Int) = (R : Int) + (M : Int) * (Q : Int) := by rw [← hdm]; simp
  generalize hx : (M : Int) * (Q : Int) = x at hc
  refine ⟨hR, ?_, ?_⟩
  · intro h1 h2
    rw [h1] at e1 ⊢
    cases hs : sg z' <;> rw [hs] at e2 <;> simp at e1 e2 <;> refine ediv_unique h ?_ (by omega) (by omega)
    · simp only [sv]; rw [e2]; simp only [Bool.true_bne, Bool.not_false, if_true]
      rw [Int.mul_neg, Int.natCast_add, Int.mul_add, hx]; simp; omega
    · simp only [sv]; rw [e2]; simp
      rw [Int.neg_mul, Int.mul_add, hx]; omega
  · intro h1
    cases hs : sg z' <;> rw [hs] at e2 <;> cases hs1 : sg z <;> rw [hs1] at e1 h1 <;> simp at e1 e2 h1 <;> refine ediv_unique h ?_ (by omega) (by omega) <;> simp [sv] <;> rw [e2] <;> simp only [Int.neg_mul, Int.mul_neg, hx] <;> omega
end Lw
namespace Go.Proofs.YtobffffcihlkbaaDoor
open Go Go.RowKit Lw
theorem blk_one (w : World) (t : TypeId) : Blk (w.alloc (.cells #[.int .u32 1] t)) w.heap.size t [1] := Blk.new w t [1]
theorem wds_one : Wds [1] := by rw [wds_cons]; exact ⟨by omega, wds_nil⟩
/-- A quotient and a rest, and no error. -/
def DivOut (w : World) (q r : Int) (e : Ending) (w' : World) : Prop :=
  ∃ A c A' c', e = .returned (.tuple #[.agg #[.bool (sg q), .slice A (mg q).length c], .agg #[.bool (sg r), .slice A' (mg r).length c'], .nilIface]) ∧ (mg q).length ≤ c ∧ (mg r).length ≤ c' ∧ Rd w' w'.heap.size A (mg q) ∧ Rd w' w'.heap.size A' (mg r) ∧ Below w.heap.size w w'
end Go.Proofs.YtobffffcihlkbaaDoor
namespace Go.Proofs.YtobffffcihlkbaaDoor
open Go Go.RowKit Lw
attribute [local go_sem ↓] Go.wp_at_zero Go.wp_at_succ

set_option maxHeartbeats 3200000 in
theorem divzero_any (s s' : Bool) (A A' : Option Addr) (ns ms : List Nat) (n m c c' B B' : Nat) (w : World) (h : Rd w B A ns) (h' : Rd w B' A' ms) (hB : B ≤ w.heap.size) (hB' : B' ≤ w.heap.size)
    (hn : ns.length = n) (hm : ms.length = m) (hl : n ≤ 8388608) (hl' : m ≤ 8388608) (hc : n ≤ c) (hc' : m ≤ c') (hz : zv s' ms = 0) :
    Calls Tryd.prog 7 #[.agg #[.bool s, .slice A n c], .agg #[.bool s', .slice A' m c']] w fun e w' => e = .returned (.tuple #[.agg #[.bool false, .slice none 0 0], .agg #[.bool false, .slice none 0 0], .iface 48 (.int .i64 8)]) ∧ Below w.heap.size w w' := by
  have hlz := zv_len (s := s) h.wds
  have hlz' := zv_len (s := s') h'.wds
  rw [hn] at hlz
  rw [hm] at hlz'
  have HZ := Lib.hid hz
  clear hz
  go_enter Tryd.func7, Tryd.ntmps7
  go_upto_region 1 with fail
  obtain ⟨T1, T2, T3, T4, _, hb0⟩ := box4 (Below.refl _ ((((w.alloc (.cells #[.bool s, .slice A n c] 24)).alloc (.cells #[.bool s', .slice A' m c'] 24)).alloc (.cells #[.bool false, .slice none 0 0] 24)).alloc (.cells #[.bool false, .slice none 0 0] 24)))
  have R1 := h.below (hb0.mono hB)
  have R2 := h'.below (hb0.mono hB')
  generalize hW : ((((w.alloc (.cells #[.bool s, .slice A n c] 24)).alloc (.cells #[.bool s', .slice A' m c'] 24)).alloc (.cells #[.bool false, .slice none 0 0] 24)).alloc (.cells #[.bool false, .slice none 0 0] 24)) = W at *
  clear hW
  have l3 := T4.lt
  obtain ⟨c10, c11, f10, f11⟩ := T1.facts
  obtain ⟨c20, c21, f20, f21⟩ := T2.facts
  go_cut [] (fun wc => ∃ A1 c1 A2 c2, Two wc w.heap.size 24 (.bool (sg (zv s ns))) (.slice A1 (mg (zv s ns)).length c1) ∧ Two wc (w.heap.size + 1) 24 (.bool (sg (zv s' ms))) (.slice A2 (mg (zv s' ms)).length c2) ∧
    Two wc (w.heap.size + 1 + 1) 24 (.bool false) (.slice none 0 0) ∧ Two wc (w.heap.size + 1 + 1 + 1) 24 (.bool false) (.slice none 0 0) ∧ Rd wc B A1 (mg (zv s ns)) ∧ Rd wc B' A2 (mg (zv s' ms)) ∧ Below w.heap.size w wc ∧ (mg (zv s ns)).length ≤ c1 ∧ (mg (zv s' ms)).length ≤ c2)
  case first =>
    go_region_with (first
      | (go_at_call_of 20 (Value.agg #[Value.bool s, Value.slice A n c]); refine (known_any s A ns n c B _ (by first | exact R1.drew | exact R1.next K2 (by omega)) (by first | (simp; omega) | (have := K2.size; omega)) hn (by omega) hc).mono ?_; rintro e w1 ⟨A1, c1, rfl, hc1, hr1, hb1⟩; have K1 : Below W.heap.size W w1 := (by first | exact next0 hb1 | exact next1 K2 hb1); obtain ⟨d10, d11, g10, g11⟩ := (T1.next K1).facts; obtain ⟨d20, d21, g20, g21⟩ := (T2.next K1).facts)
      | (go_at_call_of 20 (Value.agg #[Value.bool s', Value.slice A' m c']); refine (known_any s' A' ms m c' B' _ (by first | exact R2.drew | exact R2.next K1 (by omega)) (by first | (simp; omega) | (have := K1.size; omega)) hm (by omega) hc').mono ?_; rintro e w2 ⟨A2, c2, rfl, hc2, hr2, hb2⟩; have K2 : Below W.heap.size W w2 := (by first | exact next0 hb2 | exact next1 K1 hb2); obtain ⟨i10, i11, j10, j11⟩ := (T1.next K2).facts; obtain ⟨i20, i21, j20, j21⟩ := (T2.next K2).facts))
    all_goals
      obtain ⟨P1, P2, P3, P4, P5⟩ : _ ∧ _ ∧ _ ∧ _ ∧ _ := by
        first
          | exact pair_put (sg (zv s ns)) (sg (zv s' ms)) (.slice A1 (mg (zv s ns)).length c1) (.slice A2 (mg (zv s' ms)).length c2) (T1.next K2) (T2.next K2) (by omega) (hr1.next hb2 (by have := K1.size; omega)) hr2 (below_next hb0 K2 (by omega)) (Nat.le_refl _) (by omega)
          | exact pair_put (sg (zv s ns)) (sg (zv s' ms)) (.slice A1 (mg (zv s ns)).length c1) (.slice A2 (mg (zv s' ms)).length c2) (T1.next K1) (T2.next K1) (by omega) hr1 (hr2.next hb1 (by have := K2.size; omega)) (below_next hb0 K1 (by omega)) (Nat.le_refl _) (by omega)
      clear d10 d11 g10 g11 d20 d21 g20 g21 i10 i11 i20 i21 j10 j11 j20 j21 c10 c11 c20 c21 f10 f11 f20 f21
      go_wp2_with fail
      go_meet
      have N01 := (T3.next K1)
      have N02 := (T3.next K2)
      have N11 := (T4.next K1)
      have N12 := (T4.next K2)
      exact ⟨A1, c1, A2, c2, P1, P2, by first | exact N02.far4 (by omega) (by omega) _ _ _ _ | exact N01.far4 (by omega) (by omega) _ _ _ _, by first | exact N12.far4 (by omega) (by omega) _ _ _ _ | exact N11.far4 (by omega) (by omega) _ _ _ _, P3, P4, P5, hc1, hc2⟩
  case rest =>
    obtain ⟨A1, c1, A2, c2, Q1, Q2, Q3, Q4, r1, r2, hbc, hc1, hc2⟩ := hcut
    clear T1 T2 T3 T4 R1 R2 hb0 l3 c10 c11 c20 c21 f10 f11 f20 f21
    obtain ⟨c10, c11, f10, f11⟩ := Q1.facts
    obtain ⟨c20, c21, f20, f21⟩ := Q2.facts
    have hbq : (((mg (zv s' ms)).length : Int) == 0) = true := by rw [HZ.out]; rfl
    obtain ⟨c30, c31, f30, f31⟩ := Q3.facts
    obtain ⟨c40, c41, f40, f41⟩ := Q4.facts
    go_wp2_with fail
    refine bodyPost_ret (v := .tuple #[.agg #[.bool false, .slice none 0 0], .agg #[.bool false, .slice none 0 0], .iface 48 (.int .i64 8)]) (by simp [results, Tryd.results7, go_sem, c30, c31, c40, c41]) rfl ?_
    exact ⟨rfl, (((hbc.setCell (by simp; omega) _).setCell (by simp; omega) _).setCell (by simp; omega) _).setCell (by simp; omega) _⟩
end Go.Proofs.YtobffffcihlkbaaDoor
