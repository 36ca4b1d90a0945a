/- Walks of fraction: Min, Max. -/
import Derived.Test.YtbihljnjaondcaaGreatDoorFawake
import Derived.Deep.RegionWith
import Derived.Test.YtbihljnjaondcaaGreatDoorFrefi
import Derived.Test.YtbihljnjaondcaaGreatDoorFroot
namespace Lw
open Go Go.RowKit
end Lw
namespace Go.Proofs.YtbihljnjaondcaaGreatDoor
open Go Go.RowKit Lw
section
variable {W0 w : World} {bs : List Bx} {L : List En} {ts : List Bt} {M : List Qn} {s s' : Bool} {A A' B B' : Option Addr} {n c n' c' m d m' d' k k' : Nat} {q r : Rat} {x y : Int} {b b' : Bool}
end
end Go.Proofs.YtbihljnjaondcaaGreatDoor
/-! The reference of fractions: Abs, Min, Max, From, Div. -/
namespace Go.Proofs.YtbihljnjaondcaaGreatDoor
open Go Go.RowKit Lw
section
variable {W0 w : World} {bs : List Bx} {L : List En} {ts : List Bt} {M : List Qn} {s s' : Bool} {A A' B B' : Option Addr} {n c n' c' m d m' d' k k' : Nat} {q r : Rat} {x y : Int} {b b' : Bool}
theorem div_ratio (q r : Rat) : q * r⁻¹ = Rat.divInt (q.num * (r.den : Int)) ((q.den : Int) * r.num) := by
  have h := Rat.divInt_mul_divInt q.num (r.den : Int) (d₁ := (q.den : Int)) (d₂ := r.num)
  rw [Rat.num_divInt_den, ← Rat.inv_def] at h
  exact h
set_option maxRecDepth 100000 in
set_option maxHeartbeats 1600000 in
theorem rffrom_f (HE : FEnv W0 w bs L ts M) (h : ⟨.agg #[.bool s, .slice A n c], x, k, b⟩ ∈ L) (h' : ⟨.agg #[.bool s', .slice A' n' c'], y, k', b'⟩ ∈ L) (hk : k + k' ≤ 4000) (hy : y ≠ 0) :
    Calls Tryz.prog 101 #[.agg #[.bool s, .slice A n c], .agg #[.bool s', .slice A' n' c']] w (fun e w' => ∃ (s : Bool) (A : Option Addr) (n c : Nat) (A' : Option Addr) (n' c' : Nat), e = .returned (.tuple #[.agg #[.bool s, .slice A n c, .slice A' n' c'], .int .i64 0]) ∧ FEnv W0 w' bs L ts (⟨.agg #[.bool s, .slice A n c, .slice A' n' c'], Rat.divInt x y, k + 1 + (k' + 1), true⟩ :: M)) := by
  refine Calls.mono (R := (fun e w' => ∃ (s : Bool) (A : Option Addr) (n c : Nat) (A' : Option Addr) (n' c' : Nat), e = .returned (.tuple #[.agg #[.bool s, .slice A n c, .slice A' n' c'], .int .i64 0]) ∧ FEnv w w' [] L [] (⟨.agg #[.bool s, .slice A n c, .slice A' n' c'], Rat.divInt x y, k + 1 + (k' + 1), true⟩ :: M))) ?_ fun _ _ hh => by obtain ⟨s, A, n, c, A', n', c', e1, he⟩ := hh; exact ⟨s, A, n, c, A', n', c', e1, HE.back he⟩
  replace HE := ((HE.here.box2 (.bool s) (.slice A n c)).box2 (.bool s') (.slice A' n' c')).box3 (.bool false) (.slice none 0 0) (.slice none 0 0)
  simp only [World.size_alloc] at HE
  have hs : (signI y == 0) = false := by rw [beq_eq_false_iff_ne]; unfold signI; split; decide; first | decide | (rw [if_neg hy]; decide)
  have HY := Lib.hid hy
  clear hy
  obtain ⟨q0, q1, q2, q3⟩ := HE.c2 (.head _)
  obtain ⟨q4, q5, q6, q7⟩ := HE.c2 (.tail _ (.head _))
  obtain ⟨q8, q9, q10, q11, q12, q13⟩ := HE.c3 (.head _)
  go_enter Tryz.func101, Tryz.ntmps101
  go_wp2_with fail
  refine (rsign_f HE h' (by omega)).mono ?_
  clear HE
  rintro e w1 ⟨rfl, HE⟩
  clear q0 q1 q2 q3 q4 q5 q6 q7 q8 q9 q10 q11 q12 q13
  obtain ⟨q14, q15, q16, q17⟩ := HE.c2 (.head _)
  obtain ⟨q18, q19, q20, q21⟩ := HE.c2 (.tail _ (.head _))
  obtain ⟨q22, q23, q24, q25, q26, q27⟩ := HE.c3 (.head _)
  go_wp2_with fail
  refine (form_f HE h h' hk HY.out).mono ?_
  clear HE
  rintro e w2 ⟨sx, Ax, nx, cx, Ay, ny, cy, rfl, HE⟩
  clear q14 q15 q16 q17 q18 q19 q20 q21 q22 q23 q24 q25 q26 q27
  obtain ⟨z0, z1, z2, z3, z4, z5⟩ := HE.c3 (.head _)
  go_wp2_with fail
  refine bodyPost_ret (v := .tuple #[.agg #[.bool sx, .slice Ax nx cx, .slice Ay ny cy], .int .i64 0]) (by simp [results, Tryz.results101, go_sem, z0, z1, z2]) rfl ?_
  exact ⟨_, _, _, _, _, _, _, rfl, (HE.done3 (D := Ax) (m := nx) (d := cx) (.head _) sx (.slice Ay ny cy)).bare⟩
set_option maxRecDepth 100000 in
set_option maxHeartbeats 1600000 in
theorem rffromz_f (HE : FEnv W0 w bs L ts M) (_h : ⟨.agg #[.bool s, .slice A n c], x, k, b⟩ ∈ L) (h' : ⟨.agg #[.bool s', .slice A' n' c'], y, k', b'⟩ ∈ L) (hk : k + k' ≤ 4000) (hy : y = 0) :
    Calls Tryz.prog 101 #[.agg #[.bool s, .slice A n c], .agg #[.bool s', .slice A' n' c']] w (fun e w' => e = .returned (.tuple #[.agg #[.bool false, .slice none 0 0, .slice none 0 0], .int .i64 8]) ∧ FEnv W0 w' bs L ts M) := by
  refine Calls.mono (R := (fun e w' => e = .returned (.tuple #[.agg #[.bool false, .slice none 0 0, .slice none 0 0], .int .i64 8]) ∧ FEnv w w' [] L [] M)) ?_ fun _ _ hh => ⟨hh.1, HE.back hh.2⟩
  replace HE := ((HE.here.box2 (.bool s) (.slice A n c)).box2 (.bool s') (.slice A' n' c')).box3 (.bool false) (.slice none 0 0) (.slice none 0 0)
  simp only [World.size_alloc] at HE
  have HS := Lib.hid (show signI y = 0 by unfold signI; rw [if_neg (by omega), if_pos hy])
  have HY := Lib.hid hy
  clear hy
  obtain ⟨q0, q1, q2, q3⟩ := HE.c2 (.head _)
  obtain ⟨q4, q5, q6, q7⟩ := HE.c2 (.tail _ (.head _))
  obtain ⟨q8, q9, q10, q11, q12, q13⟩ := HE.c3 (.head _)
  go_enter Tryz.func101, Tryz.ntmps101
  go_wp2_with fail
  refine (rsign_f HE h' (by omega)).mono ?_
  rw [HS.out]
  clear HE
  rintro e w1 ⟨rfl, HE⟩
  clear q0 q1 q2 q3 q4 q5 q6 q7 q8 q9 q10 q11 q12 q13
  obtain ⟨q14, q15, q16, q17⟩ := HE.c2 (.head _)
  obtain ⟨q18, q19, q20, q21⟩ := HE.c2 (.tail _ (.head _))
  obtain ⟨q22, q23, q24, q25, q26, q27⟩ := HE.c3 (.head _)
  have TF := (HE.tri3 (.head _)).put (.bool false) (.slice none 0 0) (.slice none 0 0)
  go_wp2_with fail
  obtain ⟨z0, z1, z2, -, -, -⟩ := TF.cells
  refine bodyPost_ret (v := .tuple #[.agg #[.bool false, .slice none 0 0, .slice none 0 0], .int .i64 8]) (by simp [results, Tryz.results101, go_sem, z0, z1, z2]) rfl ?_
  exact ⟨rfl, (HE.done3 (D := none) (m := 0) (d := 0) (.head _) false (.slice none 0 0)).bare⟩
set_option maxRecDepth 100000 in
set_option maxHeartbeats 3200000 in
theorem rfdiv_f (HE : FEnv W0 w bs L ts M) (h : ⟨.agg #[.bool s, .slice A n c, .slice A' n' c'], q, k, b⟩ ∈ M) (h' : ⟨.agg #[.bool s', .slice B m d, .slice B' m' d'], r, k', b'⟩ ∈ M) (hk : k + k' ≤ 900) (hr : r ≠ 0) :
    Calls Tryz.prog 95 #[.agg #[.bool s, .slice A n c, .slice A' n' c'], .agg #[.bool s', .slice B m d, .slice B' m' d']] w (fun e w' => ∃ (s : Bool) (A : Option Addr) (n c : Nat) (A' : Option Addr) (n' c' : Nat), e = .returned (.tuple #[.agg #[.bool s, .slice A n c, .slice A' n' c'], .int .i64 0]) ∧ FEnv W0 w' bs L ts (⟨.agg #[.bool s, .slice A n c, .slice A' n' c'], q * r⁻¹, 2 * k + 2 * k' + 12, true⟩ :: M)) := by
  refine Calls.mono (R := (fun e w' => ∃ (s : Bool) (A : Option Addr) (n c : Nat) (A' : Option Addr) (n' c' : Nat), e = .returned (.tuple #[.agg #[.bool s, .slice A n c, .slice A' n' c'], .int .i64 0]) ∧ FEnv w w' [] L [] (⟨.agg #[.bool s, .slice A n c, .slice A' n' c'], q * r⁻¹, 2 * k + 2 * k' + 12, true⟩ :: M))) ?_ fun _ _ hh => by obtain ⟨s, A, n, c, A', n', c', e1, he⟩ := hh; exact ⟨s, A, n, c, A', n', c', e1, HE.back he⟩
  have HD := Lib.hid (Int.mul_ne_zero (den_ne q) (fun e => hr (Rat.num_eq_zero.1 e)))
  have HV := Lib.hid (div_ratio q r)
  clear hr
  replace HE := ((HE.here.box3 (.bool s) (.slice A n c) (.slice A' n' c')).box3 (.bool s') (.slice B m d) (.slice B' m' d')).box3 (.bool false) (.slice none 0 0) (.slice none 0 0)
  simp only [World.size_alloc] at HE
  obtain ⟨q0, q1, q2, q3, q4, q5⟩ := HE.c3 (.head _)
  obtain ⟨q6, q7, q8, q9, q10, q11⟩ := HE.c3 (.tail _ (.head _))
  obtain ⟨q12, q13, q14, q15, q16, q17⟩ := HE.c3 (.tail _ (.tail _ (.head _)))
  go_enter Tryz.func95, Tryz.ntmps95
  go_wp2_with fail
  refine (rparts_f HE h (by omega)).mono ?_
  clear HE
  rintro e w1 ⟨s1, D1, m1, d1, s2, D2, m2, d2, rfl, HE⟩
  replace HE := (HE.box2 (.bool s1) (.slice D1 m1 d1)).box2 (.bool s2) (.slice D2 m2 d2)
  simp only [World.size_alloc] at HE
  clear q0 q1 q2 q3 q4 q5 q6 q7 q8 q9 q10 q11 q12 q13 q14 q15 q16 q17
  obtain ⟨q18, q19, q20, q21⟩ := HE.c2 (.head _)
  obtain ⟨q22, q23, q24, q25⟩ := HE.c2 (.tail _ (.head _))
  obtain ⟨q26, q27, q28, q29, q30, q31⟩ := HE.c3 (.head _)
  obtain ⟨q32, q33, q34, q35, q36, q37⟩ := HE.c3 (.tail _ (.head _))
  obtain ⟨q38, q39, q40, q41, q42, q43⟩ := HE.c3 (.tail _ (.tail _ (.head _)))
  go_wp2_with fail
  refine (rparts_f HE h' (by omega)).mono ?_
  clear HE
  rintro e w2 ⟨s3, D3, m3, d3, s4, D4, m4, d4, rfl, HE⟩
  replace HE := (HE.box2 (.bool s3) (.slice D3 m3 d3)).box2 (.bool s4) (.slice D4 m4 d4)
  simp only [World.size_alloc] at HE
  clear q18 q19 q20 q21 q22 q23 q24 q25 q26 q27 q28 q29 q30 q31 q32 q33 q34 q35 q36 q37 q38 q39 q40 q41 q42 q43
  obtain ⟨q44, q45, q46, q47⟩ := HE.c2 (.head _)
  obtain ⟨q48, q49, q50, q51⟩ := HE.c2 (.tail _ (.head _))
  obtain ⟨q52, q53, q54, q55⟩ := HE.c2 (.tail _ (.tail _ (.head _)))
  obtain ⟨q56, q57, q58, q59⟩ := HE.c2 (.tail _ (.tail _ (.tail _ (.head _))))
  obtain ⟨q60, q61, q62, q63, q64, q65⟩ := HE.c3 (.head _)
  obtain ⟨q66, q67, q68, q69, q70, q71⟩ := HE.c3 (.tail _ (.head _))
  obtain ⟨q72, q73, q74, q75, q76, q77⟩ := HE.c3 (.tail _ (.tail _ (.head _)))
  go_wp2_with fail
  go_region_held3 (fun w' => w'.cell? ⟨w1.heap.size, 0, none⟩ = some (.bool s1) ∧ w'.cell? ⟨w1.heap.size, 1, none⟩ = some (.slice D1 m1 d1) ∧ w'.cell? ⟨w1.heap.size + 1, 0, none⟩ = some (.bool s2) ∧ w'.cell? ⟨w1.heap.size + 1, 1, none⟩ = some (.slice D2 m2 d2) ∧ w'.cell? ⟨w2.heap.size, 0, none⟩ = some (.bool s3) ∧ w'.cell? ⟨w2.heap.size, 1, none⟩ = some (.slice D3 m3 d3) ∧ w'.cell? ⟨w2.heap.size + 1, 0, none⟩ = some (.bool s4) ∧ w'.cell? ⟨w2.heap.size + 1, 1, none⟩ = some (.slice D4 m4 d4)) (first | exact ⟨(HE.c2 (.tail _ (.tail _ (.tail _ (.head _))))).1, (HE.c2 (.tail _ (.tail _ (.tail _ (.head _))))).2.1, (HE.c2 (.tail _ (.tail _ (.head _)))).1, (HE.c2 (.tail _ (.tail _ (.head _)))).2.1, (HE.c2 (.tail _ (.head _))).1, (HE.c2 (.tail _ (.head _))).2.1, (HE.c2 (.head _)).1, (HE.c2 (.head _)).2.1⟩ | exact ⟨(HE.drew.c2 (.tail _ (.tail _ (.tail _ (.head _))))).1, (HE.drew.c2 (.tail _ (.tail _ (.tail _ (.head _))))).2.1, (HE.drew.c2 (.tail _ (.tail _ (.head _)))).1, (HE.drew.c2 (.tail _ (.tail _ (.head _)))).2.1, (HE.drew.c2 (.tail _ (.head _))).1, (HE.drew.c2 (.tail _ (.head _))).2.1, (HE.drew.c2 (.head _)).1, (HE.drew.c2 (.head _)).2.1⟩ | exact ⟨(HK.c2 (.tail _ (.tail _ (.tail _ (.head _))))).1, (HK.c2 (.tail _ (.tail _ (.tail _ (.head _))))).2.1, (HK.c2 (.tail _ (.tail _ (.head _)))).1, (HK.c2 (.tail _ (.tail _ (.head _)))).2.1, (HK.c2 (.tail _ (.head _))).1, (HK.c2 (.tail _ (.head _))).2.1, (HK.c2 (.head _)).1, (HK.c2 (.head _)).2.1⟩)
    (first
      | (go_at_call 100; refine (rmul_f (by with_reducible first | exact HE | exact HE.drew) (by repeat (first | exact .head _ | assumption | refine .tail _ ?_)) (by repeat (first | exact .head _ | assumption | refine .tail _ ?_)) (by omega)).mono ?_; rintro e wn ⟨sx, Ax, nx, cx, rfl, HE⟩)
      | (go_at_call 101; refine (rffrom_f (by with_reducible first | exact HE | exact HE.drew) (by repeat (first | exact .head _ | assumption | refine .tail _ ?_)) (by repeat (first | exact .head _ | assumption | refine .tail _ ?_)) (by omega) HD.out).mono ?_; rintro e wn ⟨sx, Ax, nx, cx, Ay, ny, cy, rfl, HE⟩; have HK := HE.done3 (D := Ax) (m := nx) (d := cx) (.head _) sx (.slice Ay ny cy); obtain ⟨z0, z1, z2, z3, z4, z5⟩ := HE.c3 (.head _)))
  go_wp2_with fail
  refine bodyPost_ret (v := .tuple #[.agg #[.bool sx, .slice Ax nx cx, .slice Ay ny cy], .int .i64 0]) (by simp [results, Tryz.results95, go_sem, z0, z1, z2]) rfl ?_
  rw [HV.out]
  exact ⟨_, _, _, _, _, _, _, rfl, (HK.bare.pick (fun e he => .tail _ (.tail _ (.tail _ (.tail _ (.tail _ (.tail _ (he))))))) (fun _ he => he)).hd (·.weak (by omega))⟩
set_option maxRecDepth 100000 in
set_option maxHeartbeats 3200000 in
theorem rfdivz_f (HE : FEnv W0 w bs L ts M) (h : ⟨.agg #[.bool s, .slice A n c, .slice A' n' c'], q, k, b⟩ ∈ M) (h' : ⟨.agg #[.bool s', .slice B m d, .slice B' m' d'], r, k', b'⟩ ∈ M) (hk : k + k' ≤ 900) (hr : r = 0) :
    Calls Tryz.prog 95 #[.agg #[.bool s, .slice A n c, .slice A' n' c'], .agg #[.bool s', .slice B m d, .slice B' m' d']] w (fun e w' => e = .returned (.tuple #[.agg #[.bool false, .slice none 0 0, .slice none 0 0], .int .i64 8]) ∧ FEnv W0 w' bs L ts M) := by
  refine Calls.mono (R := (fun e w' => e = .returned (.tuple #[.agg #[.bool false, .slice none 0 0, .slice none 0 0], .int .i64 8]) ∧ FEnv w w' [] L [] M)) ?_ fun _ _ hh => ⟨hh.1, HE.back hh.2⟩
  have HD := Lib.hid (show (q.den : Int) * r.num = 0 by rw [hr]; exact Int.mul_zero _)
  clear hr
  replace HE := ((HE.here.box3 (.bool s) (.slice A n c) (.slice A' n' c')).box3 (.bool s') (.slice B m d) (.slice B' m' d')).box3 (.bool false) (.slice none 0 0) (.slice none 0 0)
  simp only [World.size_alloc] at HE
  obtain ⟨q0, q1, q2, q3, q4, q5⟩ := HE.c3 (.head _)
  obtain ⟨q6, q7, q8, q9, q10, q11⟩ := HE.c3 (.tail _ (.head _))
  obtain ⟨q12, q13, q14, q15, q16, q17⟩ := HE.c3 (.tail _ (.tail _ (.head _)))
  go_enter Tryz.func95, Tryz.ntmps95
  go_wp2_with fail
  refine (rparts_f HE h (by omega)).mono ?_
  clear HE
  rintro e w1 ⟨s1, D1, m1, d1, s2, D2, m2, d2, rfl, HE⟩
  replace HE := (HE.box2 (.bool s1) (.slice D1 m1 d1)).box2 (.bool s2) (.slice D2 m2 d2)
  simp only [World.size_alloc] at HE
  clear q0 q1 q2 q3 q4 q5 q6 q7 q8 q9 q10 q11 q12 q13 q14 q15 q16 q17
  obtain ⟨q18, q19, q20, q21⟩ := HE.c2 (.head _)
  obtain ⟨q22, q23, q24, q25⟩ := HE.c2 (.tail _ (.head _))
  obtain ⟨q26, q27, q28, q29, q30, q31⟩ := HE.c3 (.head _)
  obtain ⟨q32, q33, q34, q35, q36, q37⟩ := HE.c3 (.tail _ (.head _))
  obtain ⟨q38, q39, q40, q41, q42, q43⟩ := HE.c3 (.tail _ (.tail _ (.head _)))
  go_wp2_with fail
  refine (rparts_f HE h' (by omega)).mono ?_
  clear HE
  rintro e w2 ⟨s3, D3, m3, d3, s4, D4, m4, d4, rfl, HE⟩
  replace HE := (HE.box2 (.bool s3) (.slice D3 m3 d3)).box2 (.bool s4) (.slice D4 m4 d4)
  simp only [World.size_alloc] at HE
  clear q18 q19 q20 q21 q22 q23 q24 q25 q26 q27 q28 q29 q30 q31 q32 q33 q34 q35 q36 q37 q38 q39 q40 q41 q42 q43
  obtain ⟨q44, q45, q46, q47⟩ := HE.c2 (.head _)
  obtain ⟨q48, q49, q50, q51⟩ := HE.c2 (.tail _ (.head _))
  obtain ⟨q52, q53, q54, q55⟩ := HE.c2 (.tail _ (.tail _ (.head _)))
  obtain ⟨q56, q57, q58, q59⟩ := HE.c2 (.tail _ (.tail _ (.tail _ (.head _))))
  obtain ⟨q60, q61, q62, q63, q64, q65⟩ := HE.c3 (.head _)
  obtain ⟨q66, q67, q68, q69, q70, q71⟩ := HE.c3 (.tail _ (.head _))
  obtain ⟨q72, q73, q74, q75, q76, q77⟩ := HE.c3 (.tail _ (.tail _ (.head _)))
  go_wp2_with fail
  go_region_held3 (fun w' => w'.cell? ⟨w1.heap.size, 0, none⟩ = some (.bool s1) ∧ w'.cell? ⟨w1.heap.size, 1, none⟩ = some (.slice D1 m1 d1) ∧ w'.cell? ⟨w1.heap.size + 1, 0, none⟩ = some (.bool s2) ∧ w'.cell? ⟨w1.heap.size + 1, 1, none⟩ = some (.slice D2 m2 d2) ∧ w'.cell? ⟨w2.heap.size, 0, none⟩ = some (.bool s3) ∧ w'.cell? ⟨w2.heap.size, 1, none⟩ = some (.slice D3 m3 d3) ∧ w'.cell? ⟨w2.heap.size + 1, 0, none⟩ = some (.bool s4) ∧ w'.cell? ⟨w2.heap.size + 1, 1, none⟩ = some (.slice D4 m4 d4)) (first | exact ⟨(HE.c2 (.tail _ (.tail _ (.tail _ (.head _))))).1, (HE.c2 (.tail _ (.tail _ (.tail _ (.head _))))).2.1, (HE.c2 (.tail _ (.tail _ (.head _)))).1, (HE.c2 (.tail _ (.tail _ (.head _)))).2.1, (HE.c2 (.tail _ (.head _))).1, (HE.c2 (.tail _ (.head _))).2.1, (HE.c2 (.head _)).1, (HE.c2 (.head _)).2.1⟩ | exact ⟨(HE.drew.c2 (.tail _ (.tail _ (.tail _ (.head _))))).1, (HE.drew.c2 (.tail _ (.tail _ (.tail _ (.head _))))).2.1, (HE.drew.c2 (.tail _ (.tail _ (.head _)))).1, (HE.drew.c2 (.tail _ (.tail _ (.head _)))).2.1, (HE.drew.c2 (.tail _ (.head _))).1, (HE.drew.c2 (.tail _ (.head _))).2.1, (HE.drew.c2 (.head _)).1, (HE.drew.c2 (.head _)).2.1⟩ | exact ⟨(HK.c2 (.tail _ (.tail _ (.tail _ (.head _))))).1, (HK.c2 (.tail _ (.tail _ (.tail _ (.head _))))).2.1, (HK.c2 (.tail _ (.tail _ (.head _)))).1, (HK.c2 (.tail _ (.tail _ (.head _)))).2.1, (HK.c2 (.tail _ (.head _))).1, (HK.c2 (.tail _ (.head _))).2.1, (HK.c2 (.head _)).1, (HK.c2 (.head _)).2.1⟩)
    (first
      | (go_at_call 100; refine (rmul_f (by with_reducible first | exact HE | exact HE.drew) (by repeat (first | exact .head _ | assumption | refine .tail _ ?_)) (by repeat (first | exact .head _ | assumption | refine .tail _ ?_)) (by omega)).mono ?_; rintro e wn ⟨sx, Ax, nx, cx, rfl, HE⟩)
      | (go_at_call 101; refine (rffromz_f (by with_reducible first | exact HE | exact HE.drew) (by repeat (first | exact .head _ | assumption | refine .tail _ ?_)) (by repeat (first | exact .head _ | assumption | refine .tail _ ?_)) (by omega) HD.out).mono ?_; rintro e wn ⟨rfl, HE⟩; have HK := HE.done3 (D := none) (m := 0) (d := 0) (.head _) false (.slice none 0 0); obtain ⟨z0, z1, z2, z3, z4, z5⟩ := HE.c3 (.head _)))
  go_wp2_with fail
  refine bodyPost_ret (v := .tuple #[.agg #[.bool false, .slice none 0 0, .slice none 0 0], .int .i64 8]) (by simp [results, Tryz.results95, go_sem, z0, z1, z2]) rfl ?_
  exact ⟨rfl, HK.bare.pick (fun e he => .tail _ (.tail _ (.tail _ (.tail _ (.tail _ (.tail _ (he))))))) (fun _ he => he)⟩
end
end Go.Proofs.YtbihljnjaondcaaGreatDoor
/-! What Root gives at any fraction, and at a square. -/
namespace Lw
end Lw
namespace Go.Proofs.YtbihljnjaondcaaGreatDoor
open Go Go.RowKit Lw
section
variable {W0 w : World} {bs : List Bx} {L : List En} {ts : List Bt} {M : List Qn} {s b : Bool} {A A' : Option Addr} {n c n' c' k : Nat} {q : Rat}
end
end Go.Proofs.YtbihljnjaondcaaGreatDoor
/-! Walk of fraction: From at a denominator above 0, and at 0. -/
namespace Go.Proofs.YtbihljnjaondcaaGreatDoor
open Go Go.RowKit Lw
section
variable {W0 w : World} {bs : List Bx} {L : List En} {ts : List Bt} {M : List Qn} {s s' : Bool} {A A' : Option Addr} {n c n' c' k k' : Nat} {x y : Int} {b b' : Bool}
end
end Go.Proofs.YtbihljnjaondcaaGreatDoor
/-! The reference of fractions: From at a denominator below 0 (of the program). -/
namespace Go.Proofs.YtbihljnjaondcaaGreatDoor
open Go Go.RowKit Lw
section
variable {W0 w : World} {bs : List Bx} {L : List En} {ts : List Bt} {M : List Qn} {s s' : Bool} {A A' B B' : Option Addr} {n c n' c' m d m' d' k k' : Nat} {q r : Rat} {x y : Int} {b b' : Bool}
set_option maxRecDepth 100000 in
set_option maxHeartbeats 1600000 in
theorem rfof_f (HE : FEnv W0 w bs L ts M) (n1 : -9223372036854775808 ≤ x) (n2 : x ≤ 9223372036854775807) :
    Calls Tryz.prog 93 #[.int .i64 x] w (GotQ W0 bs L ts M (x : Rat) 6) := by
  refine Calls.mono (R := (GotQ w [] L [] M (x : Rat) 6)) ?_ fun _ _ hh => GotQ.of HE hh
  replace HE := HE.here.box3 (.bool false) (.slice none 0 0) (.slice none 0 0)
  have HX := Lib.hid (show Rat.divInt x 1 = (x : Rat) from Rat.ext (by rw [Rat.num_divInt]; simp) (by rw [Rat.den_divInt]; simp))
  have HN := Lib.hid (show -9223372036854775808 ≤ x ∧ x ≤ 9223372036854775807 from ⟨n1, n2⟩)
  clear n1 n2
  obtain ⟨q0, q1, q2, q3, q4, q5⟩ := HE.c3 (.head _)
  go_enter Tryz.func93, Tryz.ntmps93
  go_wp2_with fail
  refine (rof_f HE HN.out.1 HN.out.2).mono ?_
  clear HE
  rintro e w1 ⟨s1, A1, n1, c1, rfl, HE⟩
  clear q0 q1 q2 q3 q4 q5
  go_wp2_with fail
  refine (one_f HE).mono ?_
  clear HE
  rintro e w2 ⟨s2, A2, n2, c2, rfl, HE⟩
  go_wp2_with fail
  refine (form_f HE (.tail _ (.head _)) (.head _) (by omega) (by omega)).mono ?_
  rw [HX.out]
  clear HE
  rintro e w3 ⟨sx, Ax, nx, cx, Ay, ny, cy, rfl, HE⟩
  obtain ⟨q6, q7, q8, q9, q10, q11⟩ := HE.c3 (.head _)
  go_wp2_with fail
  refine bodyPost_ret (v := .agg #[.bool sx, .slice Ax nx cx, .slice Ay ny cy]) (by simp [results, Tryz.results93, go_sem, q6, q7, q8]) rfl ?_
  have HK := (HE.done3 (D := Ax) (m := nx) (d := cx) (.head _) sx (.slice Ay ny cy)).bare
  exact ⟨_, _, _, _, _, _, _, rfl, HK.pick (fun e he => .tail _ (.tail _ he)) (fun _ he => he)⟩
end
end Go.Proofs.YtbihljnjaondcaaGreatDoor
/-! The reference of fractions: Make. -/
namespace Go.Proofs.YtbihljnjaondcaaGreatDoor
open Go Go.RowKit Lw
section
variable {W0 w : World} {bs : List Bx} {L : List En} {ts : List Bt} {M : List Qn} {s s' : Bool} {A A' B B' : Option Addr} {n c n' c' m d m' d' k k' : Nat} {q r : Rat} {x y : Int} {b b' : Bool}
end
end Go.Proofs.YtbihljnjaondcaaGreatDoor
