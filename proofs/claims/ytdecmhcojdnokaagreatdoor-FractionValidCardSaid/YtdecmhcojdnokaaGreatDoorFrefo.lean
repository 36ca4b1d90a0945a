/- The reference of fractions: Add, Mul, Neg, Sign, Sub, Cmp. -/
import Derived.Test.YtdecmhcojdnokaaGreatDoorFreff
import Derived.Test.YtdecmhcojdnokaaGreatDoorFroot
namespace Go.Proofs.YtdecmhcojdnokaaGreatDoor
open Go Go.RowKit Lw
section
variable {W0 w : World} {bs : List Bx} {L : List En} {ts : List Bt} {M : List Qn} {s s' : Bool} {A A' B B' : Option Addr} {n c n' c' m d m' d' k k' : Nat} {q r : Rat} {x y : Int} {b b' : Bool}
theorem neg_pw {q : Rat} {k : Nat} (h : q.num.natAbs < pw k ∧ q.den < pw (k + 1)) : (-q).num.natAbs < pw (k + 1) ∧ (-q).den < pw (k + 1) := by
  rw [(rat_neg q).1, (rat_neg q).2, Int.natAbs_neg]
  exact ⟨Nat.lt_of_lt_of_le h.1 (pw_le (by omega)), h.2⟩
theorem neg_ratio (q : Rat) : -q = Rat.divInt (-q.num) (q.den : Int) := by
  rw [← (rat_neg q).1, ← (rat_neg q).2]
  exact (Rat.num_divInt_den (-q)).symm
theorem sgQ_sub (q r : Rat) : sgQ (q - r) = cmpQ q r := by
  rcases tri q r with h | h | h
  · rw [cmpQ_lt h]; exact sgQ_neg (by grind)
  · rw [cmpQ_zero.2 h, h, Rat.sub_eq_add_neg, sub_self_sg]
  · rw [cmpQ_gt h]; exact sgQ_pos (by grind)
set_option maxRecDepth 100000 in
set_option maxHeartbeats 3200000 in
theorem rfadd_f (HE : FEnv W0 w bs L ts M) (h : ⟨.agg #[.bool s, .slice A n c, .slice A' n' c'], q, k, b⟩ ∈ M) (h' : ⟨.agg #[.bool s', .slice B m d, .slice B' m' d'], r, k', b'⟩ ∈ M) (hk : k + k' ≤ 1000) :
    Calls Tryz.prog 35 #[.agg #[.bool s, .slice A n c, .slice A' n' c'], .agg #[.bool s', .slice B m d, .slice B' m' d']] w (GotQ W0 bs L ts M (q + r) (k + k' + 2)) := by
  refine Calls.mono (R := (GotQ w [] L [] M (q + r) (k + k' + 2))) ?_ fun _ _ hh => GotQ.of HE hh
  have HP := Lib.hid (add_pw (known_lt HE h) (known_lt HE h'))
  have HD := Lib.hid (Int.mul_ne_zero (den_ne q) (den_ne r))
  replace HE := ((HE.here.box3 (.bool s) (.slice A n c) (.slice A' n' c')).box3 (.bool s') (.slice B m d) (.slice B' m' d')).box3 (.bool false) (.slice none 0 0) (.slice none 0 0)
  simp only [World.size_alloc] at HE
  obtain ⟨q0, q1, q2, q3, q4, q5⟩ := HE.c3 (.head _)
  obtain ⟨q6, q7, q8, q9, q10, q11⟩ := HE.c3 (.tail _ (.head _))
  obtain ⟨q12, q13, q14, q15, q16, q17⟩ := HE.c3 (.tail _ (.tail _ (.head _)))
  go_enter Tryz.func35, Tryz.ntmps35
  go_wp2_with fail
  refine (rparts_f HE h (by omega)).mono ?_
  clear HE
  rintro e w1 ⟨s1, D1, m1, d1, s2, D2, m2, d2, rfl, HE⟩
  replace HE := (HE.box2 (.bool s1) (.slice D1 m1 d1)).box2 (.bool s2) (.slice D2 m2 d2)
  simp only [World.size_alloc] at HE
  clear q0 q1 q2 q3 q4 q5 q6 q7 q8 q9 q10 q11 q12 q13 q14 q15 q16 q17
  obtain ⟨q18, q19, q20, q21⟩ := HE.c2 (.head _)
  obtain ⟨q22, q23, q24, q25⟩ := HE.c2 (.tail _ (.head _))
  obtain ⟨q26, q27, q28, q29, q30, q31⟩ := HE.c3 (.head _)
  obtain ⟨q32, q33, q34, q35, q36, q37⟩ := HE.c3 (.tail _ (.head _))
  obtain ⟨q38, q39, q40, q41, q42, q43⟩ := HE.c3 (.tail _ (.tail _ (.head _)))
  go_wp2_with fail
  refine (rparts_f HE h' (by omega)).mono ?_
  clear HE
  rintro e w2 ⟨s3, D3, m3, d3, s4, D4, m4, d4, rfl, HE⟩
  replace HE := (HE.box2 (.bool s3) (.slice D3 m3 d3)).box2 (.bool s4) (.slice D4 m4 d4)
  simp only [World.size_alloc] at HE
  clear q18 q19 q20 q21 q22 q23 q24 q25 q26 q27 q28 q29 q30 q31 q32 q33 q34 q35 q36 q37 q38 q39 q40 q41 q42 q43
  obtain ⟨q44, q45, q46, q47⟩ := HE.c2 (.head _)
  obtain ⟨q48, q49, q50, q51⟩ := HE.c2 (.tail _ (.head _))
  obtain ⟨q52, q53, q54, q55⟩ := HE.c2 (.tail _ (.tail _ (.head _)))
  obtain ⟨q56, q57, q58, q59⟩ := HE.c2 (.tail _ (.tail _ (.tail _ (.head _))))
  obtain ⟨q60, q61, q62, q63, q64, q65⟩ := HE.c3 (.head _)
  obtain ⟨q66, q67, q68, q69, q70, q71⟩ := HE.c3 (.tail _ (.head _))
  obtain ⟨q72, q73, q74, q75, q76, q77⟩ := HE.c3 (.tail _ (.tail _ (.head _)))
  go_wp2_with fail
  go_region_held3 (fun w' => w'.cell? ⟨w1.heap.size, 0, none⟩ = some (.bool s1) ∧ w'.cell? ⟨w1.heap.size, 1, none⟩ = some (.slice D1 m1 d1) ∧ w'.cell? ⟨w1.heap.size + 1, 0, none⟩ = some (.bool s2) ∧ w'.cell? ⟨w1.heap.size + 1, 1, none⟩ = some (.slice D2 m2 d2) ∧ w'.cell? ⟨w2.heap.size, 0, none⟩ = some (.bool s3) ∧ w'.cell? ⟨w2.heap.size, 1, none⟩ = some (.slice D3 m3 d3) ∧ w'.cell? ⟨w2.heap.size + 1, 0, none⟩ = some (.bool s4) ∧ w'.cell? ⟨w2.heap.size + 1, 1, none⟩ = some (.slice D4 m4 d4)) (first | exact ⟨(HE.c2 (.tail _ (.tail _ (.tail _ (.head _))))).1, (HE.c2 (.tail _ (.tail _ (.tail _ (.head _))))).2.1, (HE.c2 (.tail _ (.tail _ (.head _)))).1, (HE.c2 (.tail _ (.tail _ (.head _)))).2.1, (HE.c2 (.tail _ (.head _))).1, (HE.c2 (.tail _ (.head _))).2.1, (HE.c2 (.head _)).1, (HE.c2 (.head _)).2.1⟩ | exact ⟨(HE.drew.c2 (.tail _ (.tail _ (.tail _ (.head _))))).1, (HE.drew.c2 (.tail _ (.tail _ (.tail _ (.head _))))).2.1, (HE.drew.c2 (.tail _ (.tail _ (.head _)))).1, (HE.drew.c2 (.tail _ (.tail _ (.head _)))).2.1, (HE.drew.c2 (.tail _ (.head _))).1, (HE.drew.c2 (.tail _ (.head _))).2.1, (HE.drew.c2 (.head _)).1, (HE.drew.c2 (.head _)).2.1⟩ | exact ⟨(HK.c2 (.tail _ (.tail _ (.tail _ (.head _))))).1, (HK.c2 (.tail _ (.tail _ (.tail _ (.head _))))).2.1, (HK.c2 (.tail _ (.tail _ (.head _)))).1, (HK.c2 (.tail _ (.tail _ (.head _)))).2.1, (HK.c2 (.tail _ (.head _))).1, (HK.c2 (.tail _ (.head _))).2.1, (HK.c2 (.head _)).1, (HK.c2 (.head _)).2.1⟩)
    (first
      | (go_at_call 83; refine (rmul_f (by with_reducible first | exact HE | exact HE.drew) (by repeat (first | exact .head _ | assumption | refine .tail _ ?_)) (by repeat (first | exact .head _ | assumption | refine .tail _ ?_)) (by omega)).mono ?_; rintro e wn ⟨sx, Ax, nx, cx, rfl, HE⟩)
      | (go_at_call 87; refine (radd_f (by with_reducible first | exact HE | exact HE.drew) (by repeat (first | exact .head _ | assumption | refine .tail _ ?_)) (by repeat (first | exact .head _ | assumption | refine .tail _ ?_)) (by omega)).mono ?_; rintro e wn ⟨sx, Ax, nx, cx, rfl, HE⟩)
      | (go_at_call 73; refine (form_f (by with_reducible first | exact HE | exact HE.drew) (by repeat (first | exact .head _ | assumption | refine .tail _ ?_)) (by repeat (first | exact .head _ | assumption | refine .tail _ ?_)) (by omega) HD.out).mono ?_; rintro e wn ⟨sx, Ax, nx, cx, Ay, ny, cy, rfl, HE⟩; have HK := HE.done3 (D := Ax) (m := nx) (d := cx) (.head _) sx (.slice Ay ny cy); obtain ⟨z0, z1, z2, z3, z4, z5⟩ := HE.c3 (.head _)))
  go_wp2_with fail
  refine bodyPost_ret (v := .agg #[.bool sx, .slice Ax nx cx, .slice Ay ny cy]) (by simp [results, Tryz.results35, go_sem, z0, z1, z2]) rfl ?_
  have HF := HK.bare
  rw [← add_ratio] at HF
  replace HF := HF.hd (fun hh => Fop.tight hh HP.out.1 HP.out.2)
  exact ⟨_, _, _, _, _, _, _, rfl, HF.pick (fun e he => .tail _ (.tail _ (.tail _ (.tail _ (.tail _ (.tail _ (.tail _ (.tail _ (he))))))))) (fun _ he => he)⟩
set_option maxRecDepth 100000 in
set_option maxHeartbeats 3200000 in
theorem rfmul_f (HE : FEnv W0 w bs L ts M) (h : ⟨.agg #[.bool s, .slice A n c, .slice A' n' c'], q, k, b⟩ ∈ M) (h' : ⟨.agg #[.bool s', .slice B m d, .slice B' m' d'], r, k', b'⟩ ∈ M) (hk : k + k' ≤ 1000) :
    Calls Tryz.prog 39 #[.agg #[.bool s, .slice A n c, .slice A' n' c'], .agg #[.bool s', .slice B m d, .slice B' m' d']] w (GotQ W0 bs L ts M (q * r) (k + k' + 2)) := by
  refine Calls.mono (R := (GotQ w [] L [] M (q * r) (k + k' + 2))) ?_ fun _ _ hh => GotQ.of HE hh
  have HP := Lib.hid (mul_pw (known_lt HE h) (known_lt HE h'))
  have HD := Lib.hid (Int.mul_ne_zero (den_ne q) (den_ne r))
  replace HE := ((HE.here.box3 (.bool s) (.slice A n c) (.slice A' n' c')).box3 (.bool s') (.slice B m d) (.slice B' m' d')).box3 (.bool false) (.slice none 0 0) (.slice none 0 0)
  simp only [World.size_alloc] at HE
  obtain ⟨q0, q1, q2, q3, q4, q5⟩ := HE.c3 (.head _)
  obtain ⟨q6, q7, q8, q9, q10, q11⟩ := HE.c3 (.tail _ (.head _))
  obtain ⟨q12, q13, q14, q15, q16, q17⟩ := HE.c3 (.tail _ (.tail _ (.head _)))
  go_enter Tryz.func39, Tryz.ntmps39
  go_wp2_with fail
  refine (rparts_f HE h (by omega)).mono ?_
  clear HE
  rintro e w1 ⟨s1, D1, m1, d1, s2, D2, m2, d2, rfl, HE⟩
  replace HE := (HE.box2 (.bool s1) (.slice D1 m1 d1)).box2 (.bool s2) (.slice D2 m2 d2)
  simp only [World.size_alloc] at HE
  clear q0 q1 q2 q3 q4 q5 q6 q7 q8 q9 q10 q11 q12 q13 q14 q15 q16 q17
  obtain ⟨q18, q19, q20, q21⟩ := HE.c2 (.head _)
  obtain ⟨q22, q23, q24, q25⟩ := HE.c2 (.tail _ (.head _))
  obtain ⟨q26, q27, q28, q29, q30, q31⟩ := HE.c3 (.head _)
  obtain ⟨q32, q33, q34, q35, q36, q37⟩ := HE.c3 (.tail _ (.head _))
  obtain ⟨q38, q39, q40, q41, q42, q43⟩ := HE.c3 (.tail _ (.tail _ (.head _)))
  go_wp2_with fail
  refine (rparts_f HE h' (by omega)).mono ?_
  clear HE
  rintro e w2 ⟨s3, D3, m3, d3, s4, D4, m4, d4, rfl, HE⟩
  replace HE := (HE.box2 (.bool s3) (.slice D3 m3 d3)).box2 (.bool s4) (.slice D4 m4 d4)
  simp only [World.size_alloc] at HE
  clear q18 q19 q20 q21 q22 q23 q24 q25 q26 q27 q28 q29 q30 q31 q32 q33 q34 q35 q36 q37 q38 q39 q40 q41 q42 q43
  obtain ⟨q44, q45, q46, q47⟩ := HE.c2 (.head _)
  obtain ⟨q48, q49, q50, q51⟩ := HE.c2 (.tail _ (.head _))
  obtain ⟨q52, q53, q54, q55⟩ := HE.c2 (.tail _ (.tail _ (.head _)))
  obtain ⟨q56, q57, q58, q59⟩ := HE.c2 (.tail _ (.tail _ (.tail _ (.head _))))
  obtain ⟨q60, q61, q62, q63, q64, q65⟩ := HE.c3 (.head _)
  obtain ⟨q66, q67, q68, q69, q70, q71⟩ := HE.c3 (.tail _ (.head _))
  obtain ⟨q72, q73, q74, q75, q76, q77⟩ := HE.c3 (.tail _ (.tail _ (.head _)))
  go_wp2_with fail
  go_region_held3 (fun w' => w'.cell? ⟨w1.heap.size, 0, none⟩ = some (.bool s1) ∧ w'.cell? ⟨w1.heap.size, 1, none⟩ = some (.slice D1 m1 d1) ∧ w'.cell? ⟨w1.heap.size + 1, 0, none⟩ = some (.bool s2) ∧ w'.cell? ⟨w1.heap.size + 1, 1, none⟩ = some (.slice D2 m2 d2) ∧ w'.cell? ⟨w2.heap.size, 0, none⟩ = some (.bool s3) ∧ w'.cell? ⟨w2.heap.size, 1, none⟩ = some (.slice D3 m3 d3) ∧ w'.cell? ⟨w2.heap.size + 1, 0, none⟩ = some (.bool s4) ∧ w'.cell? ⟨w2.heap.size + 1, 1, none⟩ = some (.slice D4 m4 d4)) (first | exact ⟨(HE.c2 (.tail _ (.tail _ (.tail _ (.head _))))).1, (HE.c2 (.tail _ (.tail _ (.tail _ (.head _))))).2.1, (HE.c2 (.tail _ (.tail _ (.head _)))).1, (HE.c2 (.tail _ (.tail _ (.head _)))).2.1, (HE.c2 (.tail _ (.head _))).1, (HE.c2 (.tail _ (.head _))).2.1, (HE.c2 (.head _)).1, (HE.c2 (.head _)).2.1⟩ | exact ⟨(HE.drew.c2 (.tail _ (.tail _ (.tail _ (.head _))))).1, (HE.drew.c2 (.tail _ (.tail _ (.tail _ (.head _))))).2.1, (HE.drew.c2 (.tail _ (.tail _ (.head _)))).1, (HE.drew.c2 (.tail _ (.tail _ (.head _)))).2.1, (HE.drew.c2 (.tail _ (.head _))).1, (HE.drew.c2 (.tail _ (.head _))).2.1, (HE.drew.c2 (.head _)).1, (HE.drew.c2 (.head _)).2.1⟩ | exact ⟨(HK.c2 (.tail _ (.tail _ (.tail _ (.head _))))).1, (HK.c2 (.tail _ (.tail _ (.tail _ (.head _))))).2.1, (HK.c2 (.tail _ (.tail _ (.head _)))).1, (HK.c2 (.tail _ (.tail _ (.head _)))).2.1, (HK.c2 (.tail _ (.head _))).1, (HK.c2 (.tail _ (.head _))).2.1, (HK.c2 (.head _)).1, (HK.c2 (.head _)).2.1⟩)
    (first
      | (go_at_call 83; refine (rmul_f (by with_reducible first | exact HE | exact HE.drew) (by repeat (first | exact .head _ | assumption | refine .tail _ ?_)) (by repeat (first | exact .head _ | assumption | refine .tail _ ?_)) (by omega)).mono ?_; rintro e wn ⟨sx, Ax, nx, cx, rfl, HE⟩)
      | (go_at_call 73; refine (form_f (by with_reducible first | exact HE | exact HE.drew) (by repeat (first | exact .head _ | assumption | refine .tail _ ?_)) (by repeat (first | exact .head _ | assumption | refine .tail _ ?_)) (by omega) HD.out).mono ?_; rintro e wn ⟨sx, Ax, nx, cx, Ay, ny, cy, rfl, HE⟩; have HK := HE.done3 (D := Ax) (m := nx) (d := cx) (.head _) sx (.slice Ay ny cy); obtain ⟨z0, z1, z2, z3, z4, z5⟩ := HE.c3 (.head _)))
  go_wp2_with fail
  refine bodyPost_ret (v := .agg #[.bool sx, .slice Ax nx cx, .slice Ay ny cy]) (by simp [results, Tryz.results39, go_sem, z0, z1, z2]) rfl ?_
  have HF := HK.bare
  rw [← mul_ratio] at HF
  replace HF := HF.hd (fun hh => Fop.tight hh HP.out.1 HP.out.2)
  exact ⟨_, _, _, _, _, _, _, rfl, HF.pick (fun e he => .tail _ (.tail _ (.tail _ (.tail _ (.tail _ (.tail _ (he))))))) (fun _ he => he)⟩
set_option maxRecDepth 100000 in
set_option maxHeartbeats 2400000 in
theorem rfneg_f (HE : FEnv W0 w bs L ts M) (h : ⟨.agg #[.bool s, .slice A n c, .slice A' n' c'], q, k, b⟩ ∈ M) (hk : k ≤ 1500) :
    Calls Tryz.prog 29 #[.agg #[.bool s, .slice A n c, .slice A' n' c']] w (GotQ W0 bs L ts M (-q) (k + 1)) := by
  refine Calls.mono (R := (GotQ w [] L [] M (-q) (k + 1))) ?_ fun _ _ hh => GotQ.of HE hh
  have HP := Lib.hid (neg_pw (known_lt HE h))
  have HD := Lib.hid (den_ne q)
  have HB := Lib.hid (HE.fr _ h)
  replace HE := (HE.here.box3 (.bool s) (.slice A n c) (.slice A' n' c')).box3 (.bool false) (.slice none 0 0) (.slice none 0 0)
  simp only [World.size_alloc] at HE
  obtain ⟨q0, q1, q2, q3, q4, q5⟩ := HE.c3 (.head _)
  obtain ⟨q6, q7, q8, q9, q10, q11⟩ := HE.c3 (.tail _ (.head _))
  go_enter Tryz.func29, Tryz.ntmps29
  go_wp2_with fail
  refine (rparts_f HE h (by omega)).mono ?_
  clear HE
  rintro e w1 ⟨s1, D1, m1, d1, s2, D2, m2, d2, rfl, HE⟩
  replace HE := (HE.box2 (.bool s1) (.slice D1 m1 d1)).box2 (.bool s2) (.slice D2 m2 d2)
  simp only [World.size_alloc] at HE
  clear q0 q1 q2 q3 q4 q5 q6 q7 q8 q9 q10 q11
  obtain ⟨q12, q13, q14, q15⟩ := HE.c2 (.head _)
  obtain ⟨q16, q17, q18, q19⟩ := HE.c2 (.tail _ (.head _))
  obtain ⟨q20, q21, q22, q23, q24, q25⟩ := HE.c3 (.head _)
  obtain ⟨q26, q27, q28, q29, q30, q31⟩ := HE.c3 (.tail _ (.head _))
  go_wp2_with fail
  go_region_held3 (fun w' => w'.cell? ⟨w1.heap.size, 0, none⟩ = some (.bool s1) ∧ w'.cell? ⟨w1.heap.size, 1, none⟩ = some (.slice D1 m1 d1) ∧ w'.cell? ⟨w1.heap.size + 1, 0, none⟩ = some (.bool s2) ∧ w'.cell? ⟨w1.heap.size + 1, 1, none⟩ = some (.slice D2 m2 d2)) (first | exact ⟨(HE.c2 (.tail _ (.head _))).1, (HE.c2 (.tail _ (.head _))).2.1, (HE.c2 (.head _)).1, (HE.c2 (.head _)).2.1⟩ | exact ⟨(HE.drew.c2 (.tail _ (.head _))).1, (HE.drew.c2 (.tail _ (.head _))).2.1, (HE.drew.c2 (.head _)).1, (HE.drew.c2 (.head _)).2.1⟩ | exact ⟨(HK.c2 (.tail _ (.head _))).1, (HK.c2 (.tail _ (.head _))).2.1, (HK.c2 (.head _)).1, (HK.c2 (.head _)).2.1⟩)
    (first
      | (go_at_call 85; refine (rneg_f (by with_reducible first | exact HE | exact HE.drew) (by repeat (first | exact .head _ | assumption | refine .tail _ ?_)) (by omega)).mono ?_; rintro e wn ⟨sx, Ax, nx, cx, rfl, HE⟩)
      | (go_at_call 73; refine (form_f (by with_reducible first | exact HE | exact HE.drew) (by repeat (first | exact .head _ | assumption | refine .tail _ ?_)) (by repeat (first | exact .head _ | assumption | refine .tail _ ?_)) (by omega) HD.out).mono ?_; rintro e wn ⟨sx, Ax, nx, cx, Ay, ny, cy, rfl, HE⟩; have HK := HE.done3 (D := Ax) (m := nx) (d := cx) (.head _) sx (.slice Ay ny cy); obtain ⟨z0, z1, z2, z3, z4, z5⟩ := HE.c3 (.head _)))
  go_wp2_with fail
  refine bodyPost_ret (v := .agg #[.bool sx, .slice Ax nx cx, .slice Ay ny cy]) (by simp [results, Tryz.results29, go_sem, z0, z1, z2]) rfl ?_
  have HF := HK.bare
  rw [← neg_ratio] at HF
  replace HF := HF.hd (fun hh => Fop.tight hh HP.out.1 HP.out.2)
  exact ⟨_, _, _, _, _, _, _, rfl, HF.pick (fun e he => .tail _ (.tail _ (.tail _ (he)))) (fun _ he => he)⟩
set_option maxRecDepth 100000 in
set_option maxHeartbeats 2400000 in
theorem rfsign_f (HE : FEnv W0 w bs L ts M) (h : ⟨.agg #[.bool s, .slice A n c, .slice A' n' c'], q, k, b⟩ ∈ M) (hk : k ≤ 1500) :
    Calls Tryz.prog 33 #[.agg #[.bool s, .slice A n c, .slice A' n' c']] w fun e w' => e = .returned (.int .i64 (sgQ q)) ∧ FEnv W0 w' bs L ts M := by
  refine Calls.mono (R := fun e w' => e = .returned (.int .i64 (sgQ q)) ∧ FEnv w w' [] L [] M) ?_ fun _ _ hh => ⟨hh.1, HE.back hh.2⟩
  replace HE := HE.here.box3 (.bool s) (.slice A n c) (.slice A' n' c')
  have HS := Lib.hid (show signI q.num = sgQ q from (sgQ_num q).symm)
  obtain ⟨q0, q1, q2, q3, q4, q5⟩ := HE.c3 (.head _)
  go_enter Tryz.func33, Tryz.ntmps33
  go_wp2_with fail
  refine (rparts_f HE h (by omega)).mono ?_
  clear HE
  rintro e w1 ⟨s1, D1, m1, d1, s2, D2, m2, d2, rfl, HE⟩
  replace HE := (HE.box2 (.bool s1) (.slice D1 m1 d1)).box2 (.bool s2) (.slice D2 m2 d2)
  simp only [World.size_alloc] at HE
  clear q0 q1 q2 q3 q4 q5
  obtain ⟨q6, q7, q8, q9⟩ := HE.c2 (.head _)
  obtain ⟨q10, q11, q12, q13⟩ := HE.c2 (.tail _ (.head _))
  obtain ⟨q14, q15, q16, q17, q18, q19⟩ := HE.c3 (.head _)
  go_wp2_with fail
  refine (rsign_f HE (.head _) (by omega)).mono ?_
  rw [HS.out]
  clear HE
  rintro e w2 ⟨rfl, HE⟩
  clear q6 q7 q8 q9 q10 q11 q12 q13 q14 q15 q16 q17 q18 q19
  go_wp2_with fail
  go_ret
  exact ⟨rfl, HE.bare.pick (fun e he => .tail _ (.tail _ (he))) (fun _ he => he)⟩
set_option maxRecDepth 100000 in
set_option maxHeartbeats 3200000 in
theorem rfsub_f (HE : FEnv W0 w bs L ts M) (h : ⟨.agg #[.bool s, .slice A n c, .slice A' n' c'], q, k, b⟩ ∈ M) (h' : ⟨.agg #[.bool s', .slice B m d, .slice B' m' d'], r, k', b'⟩ ∈ M) (hk : k + k' ≤ 900) :
    Calls Tryz.prog 37 #[.agg #[.bool s, .slice A n c, .slice A' n' c'], .agg #[.bool s', .slice B m d, .slice B' m' d']] w (GotQ W0 bs L ts M (q - r) (k + (k' + 1) + 2)) := by
  refine Calls.mono (R := (GotQ w [] L [] M (q - r) (k + (k' + 1) + 2))) ?_ fun _ _ hh => GotQ.of HE hh
  replace HE := ((HE.here.box3 (.bool s) (.slice A n c) (.slice A' n' c')).box3 (.bool s') (.slice B m d) (.slice B' m' d')).box3 (.bool false) (.slice none 0 0) (.slice none 0 0)
  simp only [World.size_alloc] at HE
  obtain ⟨q0, q1, q2, q3, q4, q5⟩ := HE.c3 (.head _)
  obtain ⟨q6, q7, q8, q9, q10, q11⟩ := HE.c3 (.tail _ (.head _))
  obtain ⟨q12, q13, q14, q15, q16, q17⟩ := HE.c3 (.tail _ (.tail _ (.head _)))
  go_enter Tryz.func37, Tryz.ntmps37
  go_wp2_with fail
  go_region_held3 (fun w' => w'.cell? ⟨w.heap.size, 0, none⟩ = some (.bool s) ∧ w'.cell? ⟨w.heap.size, 1, none⟩ = some (.slice A n c) ∧ w'.cell? ⟨w.heap.size, 2, none⟩ = some (.slice A' n' c') ∧ w'.cell? ⟨w.heap.size + 1, 0, none⟩ = some (.bool s') ∧ w'.cell? ⟨w.heap.size + 1, 1, none⟩ = some (.slice B m d) ∧ w'.cell? ⟨w.heap.size + 1, 2, none⟩ = some (.slice B' m' d')) (first | exact ⟨(HE.c3 (.tail _ (.tail _ (.head _)))).1, (HE.c3 (.tail _ (.tail _ (.head _)))).2.1, (HE.c3 (.tail _ (.tail _ (.head _)))).2.2.1, (HE.c3 (.tail _ (.head _))).1, (HE.c3 (.tail _ (.head _))).2.1, (HE.c3 (.tail _ (.head _))).2.2.1⟩ | exact ⟨(HE.drew.c3 (.tail _ (.tail _ (.head _)))).1, (HE.drew.c3 (.tail _ (.tail _ (.head _)))).2.1, (HE.drew.c3 (.tail _ (.tail _ (.head _)))).2.2.1, (HE.drew.c3 (.tail _ (.head _))).1, (HE.drew.c3 (.tail _ (.head _))).2.1, (HE.drew.c3 (.tail _ (.head _))).2.2.1⟩ | exact ⟨(HK.c3 (.tail _ (.tail _ (.head _)))).1, (HK.c3 (.tail _ (.tail _ (.head _)))).2.1, (HK.c3 (.tail _ (.tail _ (.head _)))).2.2.1, (HK.c3 (.tail _ (.head _))).1, (HK.c3 (.tail _ (.head _))).2.1, (HK.c3 (.tail _ (.head _))).2.2.1⟩)
    (first
      | (go_at_call 29; refine (rfneg_f (by with_reducible first | exact HE | exact HE.drew) (by repeat (first | exact .head _ | assumption | refine .tail _ ?_)) (by omega)).mono ?_; rintro e wn ⟨sx, Ax, nx, cx, Ay, ny, cy, rfl, HE⟩)
      | (go_at_call 35; refine (rfadd_f (by with_reducible first | exact HE | exact HE.drew) (by repeat (first | exact .head _ | assumption | refine .tail _ ?_)) (by repeat (first | exact .head _ | assumption | refine .tail _ ?_)) (by omega)).mono ?_; rintro e wn ⟨sx, Ax, nx, cx, Ay, ny, cy, rfl, HE⟩; have HK := HE.put3 (s' := sx) (D := Ax) (m := nx) (d := cx) (v := .slice Ay ny cy) (.head _) [⟨w.heap.size + 1, .bool s', .slice B m d, .slice B' m' d'⟩, ⟨w.heap.size, .bool s, .slice A n c, .slice A' n' c'⟩] (fun b hb => by simp only [List.mem_cons, List.not_mem_nil, or_false] at hb; rcases hb with rfl | rfl <;> exact ⟨(by repeat (first | exact .head _ | assumption | refine .tail _ ?_)), by dsimp only; omega⟩); obtain ⟨z0, z1, z2, z3, z4, z5⟩ := HE.c3 (.head _)))
  go_wp2_with fail
  refine bodyPost_ret (v := .agg #[.bool sx, .slice Ax nx cx, .slice Ay ny cy]) (by simp [results, Tryz.results37, go_sem, z0, z1, z2]) rfl ?_
  have HF := HK.bare
  rw [← Rat.sub_eq_add_neg] at HF
  exact ⟨_, _, _, _, _, _, _, rfl, HF.pick (fun e he => he) (fun _ he => by rcases List.mem_cons.1 he with rfl | he; exact .head _; exact .tail _ (.tail _ (he)))⟩
set_option maxRecDepth 100000 in
set_option maxHeartbeats 2400000 in
theorem rfcmp_f (HE : FEnv W0 w bs L ts M) (h : ⟨.agg #[.bool s, .slice A n c, .slice A' n' c'], q, k, b⟩ ∈ M) (h' : ⟨.agg #[.bool s', .slice B m d, .slice B' m' d'], r, k', b'⟩ ∈ M) (hk : k + k' ≤ 900) :
    Calls Tryz.prog 41 #[.agg #[.bool s, .slice A n c, .slice A' n' c'], .agg #[.bool s', .slice B m d, .slice B' m' d']] w fun e w' => e = .returned (.int .i64 (cmpQ q r)) ∧ FEnv W0 w' bs L ts M := by
  refine Calls.mono (R := fun e w' => e = .returned (.int .i64 (cmpQ q r)) ∧ FEnv w w' [] L [] M) ?_ fun _ _ hh => ⟨hh.1, HE.back hh.2⟩
  replace HE := (HE.here.box3 (.bool s) (.slice A n c) (.slice A' n' c')).box3 (.bool s') (.slice B m d) (.slice B' m' d')
  simp only [World.size_alloc] at HE
  have HS := Lib.hid (show sgQ (q - r) = cmpQ q r from sgQ_sub q r)
  obtain ⟨q0, q1, q2, q3, q4, q5⟩ := HE.c3 (.head _)
  obtain ⟨q6, q7, q8, q9, q10, q11⟩ := HE.c3 (.tail _ (.head _))
  go_enter Tryz.func41, Tryz.ntmps41
  go_wp2_with fail
  refine (rfsub_f HE h h' (by omega)).mono ?_
  clear HE
  rintro e w1 ⟨sx, Ax, nx, cx, Ay, ny, cy, rfl, HE⟩
  clear q0 q1 q2 q3 q4 q5 q6 q7 q8 q9 q10 q11
  go_wp2_with fail
  refine (rfsign_f HE (.head _) (by omega)).mono ?_
  rw [HS.out]
  clear HE
  rintro e w2 ⟨rfl, HE⟩
  go_wp2_with fail
  go_ret
  exact ⟨rfl, HE.bare.pick (fun _ he => he) (fun e he => .tail _ he)⟩
end
end Go.Proofs.YtdecmhcojdnokaaGreatDoor
