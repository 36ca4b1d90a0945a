/- The reference of fractions: Abs, Min, Max, From, Div. -/
import Derived.Test.YtdecmhcojdnokaaGreatDoorFrefo
import Derived.Test.YtdecmhcojdnokaaGreatDoorFmm
namespace Go.Proofs.YtdecmhcojdnokaaGreatDoor
open Go Go.RowKit Lw
section
variable {W0 w : World} {bs : List Bx} {L : List En} {ts : List Bt} {M : List Qn} {s s' : Bool} {A A' B B' : Option Addr} {n c n' c' m d m' d' k k' : Nat} {q r : Rat} {x y : Int} {b b' : Bool}
theorem div_ratio (q r : Rat) : q * r⁻¹ = Rat.divInt (q.num * (r.den : Int)) ((q.den : Int) * r.num) := by
  have h := Rat.divInt_mul_divInt q.num (r.den : Int) (d₁ := (q.den : Int)) (d₂ := r.num)
  rw [Rat.num_divInt_den, ← Rat.inv_def] at h
  exact h
theorem cmp3 (q r : Rat) : (cmpQ q r = -1 ∧ minQ q r = q ∧ maxQ q r = r) ∨ (cmpQ q r = 0 ∧ minQ q r = q ∧ maxQ q r = q) ∨ (cmpQ q r = 1 ∧ minQ q r = r ∧ maxQ q r = q) := by
  have hs : cmpQ r q = -(cmpQ q r) := by have := cmpQ_swap q r; omega
  rcases tri q r with h | h | h
  · left; rw [cmpQ_lt h] at hs ⊢; unfold minQ maxQ; rw [hs]; exact ⟨rfl, rfl, rfl⟩
  · right; left; have e := cmpQ_zero.2 h; rw [e] at hs ⊢; unfold minQ maxQ; rw [hs]; exact ⟨rfl, rfl, rfl⟩
  · right; right; rw [cmpQ_gt h] at hs ⊢; unfold minQ maxQ; rw [hs]; exact ⟨rfl, rfl, rfl⟩
theorem sgn3 (q : Rat) : (sgQ q = -1 ∧ absQ q = -q) ∨ (sgQ q = 0 ∧ absQ q = q) ∨ (sgQ q = 1 ∧ absQ q = q) := by
  unfold absQ
  rcases tri q 0 with h | h | h
  · left; rw [sgQ_neg h, if_pos h]; exact ⟨rfl, rfl⟩
  · right; left; subst h; exact ⟨sgQ_zero, if_neg (by decide)⟩
  · right; right; rw [sgQ_pos h]; exact ⟨rfl, if_neg (by grind)⟩
set_option maxRecDepth 100000 in
set_option maxHeartbeats 2400000 in
theorem rfabs_f (HE : FEnv W0 w bs L ts M) (h : ⟨.agg #[.bool s, .slice A n c, .slice A' n' c'], q, k, b⟩ ∈ M) (hk : k ≤ 900) :
    Calls Tryz.prog 31 #[.agg #[.bool s, .slice A n c, .slice A' n' c']] w (GotQ W0 bs L ts M (absQ q) (k + 2)) := by
  refine Calls.mono (R := (GotQ w [] L [] M (absQ q) (k + 2))) ?_ fun _ _ hh => GotQ.of HE hh
  replace HE := (HE.here.box3 (.bool s) (.slice A n c) (.slice A' n' c')).box3 (.bool false) (.slice none 0 0) (.slice none 0 0)
  simp only [World.size_alloc] at HE
  rcases sgn3 q with hc | hc | hc
  · have HS := Lib.hid hc
    clear hc
    obtain ⟨q0, q1, q2, q3, q4, q5⟩ := HE.c3 (.head _)
    obtain ⟨q6, q7, q8, q9, q10, q11⟩ := HE.c3 (.tail _ (.head _))
    go_enter Tryz.func31, Tryz.ntmps31
    go_wp2_with fail
    refine (rfsign_f HE h (by omega)).mono ?_
    rw [HS.out.1]
    clear HE
    rintro e w1 ⟨rfl, HE⟩
    clear q0 q1 q2 q3 q4 q5 q6 q7 q8 q9 q10 q11
    obtain ⟨q12, q13, q14, q15, q16, q17⟩ := HE.c3 (.head _)
    obtain ⟨q18, q19, q20, q21, q22, q23⟩ := HE.c3 (.tail _ (.head _))
    go_wp2_with fail
    refine (rfneg_f HE h (by omega)).mono ?_
    clear HE
    rintro e w2 ⟨sx, Ax, nx, cx, Ay, ny, cy, rfl, HE⟩
    clear q12 q13 q14 q15 q16 q17 q18 q19 q20 q21 q22 q23
    obtain ⟨z0, z1, z2, z3, z4, z5⟩ := HE.c3 (.head _)
    go_wp2_with fail
    refine bodyPost_ret (v := .agg #[.bool sx, .slice Ax nx cx, .slice Ay ny cy]) (by simp [results, Tryz.results31, go_sem, z0, z1, z2]) rfl ?_
    have HK := (HE.done3 (D := Ax) (m := nx) (d := cx) (.head _) sx (.slice Ay ny cy)).bare
    rw [HS.out.2]
    exact ⟨_, _, _, _, _, _, _, rfl, HK.hd (·.weak (by omega))⟩
  · have HS := Lib.hid hc
    clear hc
    obtain ⟨q0, q1, q2, q3, q4, q5⟩ := HE.c3 (.head _)
    obtain ⟨q6, q7, q8, q9, q10, q11⟩ := HE.c3 (.tail _ (.head _))
    go_enter Tryz.func31, Tryz.ntmps31
    go_wp2_with fail
    refine (rfsign_f HE h (by omega)).mono ?_
    rw [HS.out.1]
    clear HE
    rintro e w1 ⟨rfl, HE⟩
    clear q0 q1 q2 q3 q4 q5 q6 q7 q8 q9 q10 q11
    obtain ⟨q12, q13, q14, q15, q16, q17⟩ := HE.c3 (.head _)
    obtain ⟨q18, q19, q20, q21, q22, q23⟩ := HE.c3 (.tail _ (.head _))
    go_wp2_with fail
    replace HE := HE.zero 0
    refine (rfadd_f HE (.tail _ h) (.head _) (by omega)).mono ?_
    rw [Rat.add_zero]
    clear HE
    rintro e w2 ⟨sx, Ax, nx, cx, Ay, ny, cy, rfl, HE⟩
    clear q12 q13 q14 q15 q16 q17 q18 q19 q20 q21 q22 q23
    obtain ⟨z0, z1, z2, z3, z4, z5⟩ := HE.c3 (.head _)
    go_wp2_with fail
    refine bodyPost_ret (v := .agg #[.bool sx, .slice Ax nx cx, .slice Ay ny cy]) (by simp [results, Tryz.results31, go_sem, z0, z1, z2]) rfl ?_
    have HK := (HE.done3 (D := Ax) (m := nx) (d := cx) (.head _) sx (.slice Ay ny cy)).bare
    rw [HS.out.2]
    exact ⟨_, _, _, _, _, _, _, rfl, HK.pick (fun _ he => he) (fun _ he => by rcases List.mem_cons.1 he with rfl | he; exact .head _; exact .tail _ (.tail _ he))⟩
  · have HS := Lib.hid hc
    clear hc
    obtain ⟨q0, q1, q2, q3, q4, q5⟩ := HE.c3 (.head _)
    obtain ⟨q6, q7, q8, q9, q10, q11⟩ := HE.c3 (.tail _ (.head _))
    go_enter Tryz.func31, Tryz.ntmps31
    go_wp2_with fail
    refine (rfsign_f HE h (by omega)).mono ?_
    rw [HS.out.1]
    clear HE
    rintro e w1 ⟨rfl, HE⟩
    clear q0 q1 q2 q3 q4 q5 q6 q7 q8 q9 q10 q11
    obtain ⟨q12, q13, q14, q15, q16, q17⟩ := HE.c3 (.head _)
    obtain ⟨q18, q19, q20, q21, q22, q23⟩ := HE.c3 (.tail _ (.head _))
    go_wp2_with fail
    replace HE := HE.zero 0
    refine (rfadd_f HE (.tail _ h) (.head _) (by omega)).mono ?_
    rw [Rat.add_zero]
    clear HE
    rintro e w2 ⟨sx, Ax, nx, cx, Ay, ny, cy, rfl, HE⟩
    clear q12 q13 q14 q15 q16 q17 q18 q19 q20 q21 q22 q23
    obtain ⟨z0, z1, z2, z3, z4, z5⟩ := HE.c3 (.head _)
    go_wp2_with fail
    refine bodyPost_ret (v := .agg #[.bool sx, .slice Ax nx cx, .slice Ay ny cy]) (by simp [results, Tryz.results31, go_sem, z0, z1, z2]) rfl ?_
    have HK := (HE.done3 (D := Ax) (m := nx) (d := cx) (.head _) sx (.slice Ay ny cy)).bare
    rw [HS.out.2]
    exact ⟨_, _, _, _, _, _, _, rfl, HK.pick (fun _ he => he) (fun _ he => by rcases List.mem_cons.1 he with rfl | he; exact .head _; exact .tail _ (.tail _ he))⟩
set_option maxRecDepth 100000 in
set_option maxHeartbeats 3200000 in
theorem rfmin_f (HE : FEnv W0 w bs L ts M) (h : ⟨.agg #[.bool s, .slice A n c, .slice A' n' c'], q, k, b⟩ ∈ M) (h' : ⟨.agg #[.bool s', .slice B m d, .slice B' m' d'], r, k', b'⟩ ∈ M) (hk : k + k' ≤ 900) :
    Calls Tryz.prog 43 #[.agg #[.bool s, .slice A n c, .slice A' n' c'], .agg #[.bool s', .slice B m d, .slice B' m' d']] w (GotQ W0 bs L ts M (minQ q r) (k + k' + 2)) := by
  refine Calls.mono (R := (GotQ w [] L [] M (minQ q r) (k + k' + 2))) ?_ fun _ _ hh => GotQ.of HE hh
  replace HE := ((HE.here.box3 (.bool s) (.slice A n c) (.slice A' n' c')).box3 (.bool s') (.slice B m d) (.slice B' m' d')).box3 (.bool false) (.slice none 0 0) (.slice none 0 0)
  simp only [World.size_alloc] at HE
  rcases cmp3 q r with hc | hc | hc
  · have HS := Lib.hid hc
    clear hc
    obtain ⟨q0, q1, q2, q3, q4, q5⟩ := HE.c3 (.head _)
    obtain ⟨q6, q7, q8, q9, q10, q11⟩ := HE.c3 (.tail _ (.head _))
    obtain ⟨q12, q13, q14, q15, q16, q17⟩ := HE.c3 (.tail _ (.tail _ (.head _)))
    go_enter Tryz.func43, Tryz.ntmps43
    go_wp2_with fail
    refine (rfcmp_f HE h h' (by omega)).mono ?_
    rw [HS.out.1]
    clear HE
    rintro e w1 ⟨rfl, HE⟩
    clear q0 q1 q2 q3 q4 q5 q6 q7 q8 q9 q10 q11 q12 q13 q14 q15 q16 q17
    obtain ⟨q18, q19, q20, q21, q22, q23⟩ := HE.c3 (.head _)
    obtain ⟨q24, q25, q26, q27, q28, q29⟩ := HE.c3 (.tail _ (.head _))
    obtain ⟨q30, q31, q32, q33, q34, q35⟩ := HE.c3 (.tail _ (.tail _ (.head _)))
    go_wp2_with fail
    replace HE := HE.zero 0
    refine (rfadd_f HE (.tail _ h) (.head _) (by omega)).mono ?_
    rw [Rat.add_zero]
    clear HE
    rintro e w2 ⟨sx, Ax, nx, cx, Ay, ny, cy, rfl, HE⟩
    clear q18 q19 q20 q21 q22 q23 q24 q25 q26 q27 q28 q29 q30 q31 q32 q33 q34 q35
    obtain ⟨z0, z1, z2, z3, z4, z5⟩ := HE.c3 (.head _)
    go_wp2_with fail
    refine bodyPost_ret (v := .agg #[.bool sx, .slice Ax nx cx, .slice Ay ny cy]) (by simp [results, Tryz.results43, go_sem, z0, z1, z2]) rfl ?_
    have HK := (HE.done3 (D := Ax) (m := nx) (d := cx) (.head _) sx (.slice Ay ny cy)).bare
    rw [HS.out.2.1]
    exact ⟨_, _, _, _, _, _, _, rfl, (HK.pick (M' := ⟨_, _, _, _⟩ :: M) (fun _ he => he) (fun _ he => by rcases List.mem_cons.1 he with rfl | he; exact .head _; exact .tail _ (.tail _ he))).hd (·.weak (by omega))⟩
  · have HS := Lib.hid hc
    clear hc
    obtain ⟨q0, q1, q2, q3, q4, q5⟩ := HE.c3 (.head _)
    obtain ⟨q6, q7, q8, q9, q10, q11⟩ := HE.c3 (.tail _ (.head _))
    obtain ⟨q12, q13, q14, q15, q16, q17⟩ := HE.c3 (.tail _ (.tail _ (.head _)))
    go_enter Tryz.func43, Tryz.ntmps43
    go_wp2_with fail
    refine (rfcmp_f HE h h' (by omega)).mono ?_
    rw [HS.out.1]
    clear HE
    rintro e w1 ⟨rfl, HE⟩
    clear q0 q1 q2 q3 q4 q5 q6 q7 q8 q9 q10 q11 q12 q13 q14 q15 q16 q17
    obtain ⟨q18, q19, q20, q21, q22, q23⟩ := HE.c3 (.head _)
    obtain ⟨q24, q25, q26, q27, q28, q29⟩ := HE.c3 (.tail _ (.head _))
    obtain ⟨q30, q31, q32, q33, q34, q35⟩ := HE.c3 (.tail _ (.tail _ (.head _)))
    go_wp2_with fail
    replace HE := HE.zero 0
    refine (rfadd_f HE (.tail _ h) (.head _) (by omega)).mono ?_
    rw [Rat.add_zero]
    clear HE
    rintro e w2 ⟨sx, Ax, nx, cx, Ay, ny, cy, rfl, HE⟩
    clear q18 q19 q20 q21 q22 q23 q24 q25 q26 q27 q28 q29 q30 q31 q32 q33 q34 q35
    obtain ⟨z0, z1, z2, z3, z4, z5⟩ := HE.c3 (.head _)
    go_wp2_with fail
    refine bodyPost_ret (v := .agg #[.bool sx, .slice Ax nx cx, .slice Ay ny cy]) (by simp [results, Tryz.results43, go_sem, z0, z1, z2]) rfl ?_
    have HK := (HE.done3 (D := Ax) (m := nx) (d := cx) (.head _) sx (.slice Ay ny cy)).bare
    rw [HS.out.2.1]
    exact ⟨_, _, _, _, _, _, _, rfl, (HK.pick (M' := ⟨_, _, _, _⟩ :: M) (fun _ he => he) (fun _ he => by rcases List.mem_cons.1 he with rfl | he; exact .head _; exact .tail _ (.tail _ he))).hd (·.weak (by omega))⟩
  · have HS := Lib.hid hc
    clear hc
    obtain ⟨q0, q1, q2, q3, q4, q5⟩ := HE.c3 (.head _)
    obtain ⟨q6, q7, q8, q9, q10, q11⟩ := HE.c3 (.tail _ (.head _))
    obtain ⟨q12, q13, q14, q15, q16, q17⟩ := HE.c3 (.tail _ (.tail _ (.head _)))
    go_enter Tryz.func43, Tryz.ntmps43
    go_wp2_with fail
    refine (rfcmp_f HE h h' (by omega)).mono ?_
    rw [HS.out.1]
    clear HE
    rintro e w1 ⟨rfl, HE⟩
    clear q0 q1 q2 q3 q4 q5 q6 q7 q8 q9 q10 q11 q12 q13 q14 q15 q16 q17
    obtain ⟨q18, q19, q20, q21, q22, q23⟩ := HE.c3 (.head _)
    obtain ⟨q24, q25, q26, q27, q28, q29⟩ := HE.c3 (.tail _ (.head _))
    obtain ⟨q30, q31, q32, q33, q34, q35⟩ := HE.c3 (.tail _ (.tail _ (.head _)))
    go_wp2_with fail
    replace HE := HE.zero 0
    refine (rfadd_f HE (.tail _ h') (.head _) (by omega)).mono ?_
    rw [Rat.add_zero]
    clear HE
    rintro e w2 ⟨sx, Ax, nx, cx, Ay, ny, cy, rfl, HE⟩
    clear q18 q19 q20 q21 q22 q23 q24 q25 q26 q27 q28 q29 q30 q31 q32 q33 q34 q35
    obtain ⟨z0, z1, z2, z3, z4, z5⟩ := HE.c3 (.head _)
    go_wp2_with fail
    refine bodyPost_ret (v := .agg #[.bool sx, .slice Ax nx cx, .slice Ay ny cy]) (by simp [results, Tryz.results43, go_sem, z0, z1, z2]) rfl ?_
    have HK := (HE.done3 (D := Ax) (m := nx) (d := cx) (.head _) sx (.slice Ay ny cy)).bare
    rw [HS.out.2.1]
    exact ⟨_, _, _, _, _, _, _, rfl, (HK.pick (M' := ⟨_, _, _, _⟩ :: M) (fun _ he => he) (fun _ he => by rcases List.mem_cons.1 he with rfl | he; exact .head _; exact .tail _ (.tail _ he))).hd (·.weak (by omega))⟩
set_option maxRecDepth 100000 in
set_option maxHeartbeats 3200000 in
theorem rfmax_f (HE : FEnv W0 w bs L ts M) (h : ⟨.agg #[.bool s, .slice A n c, .slice A' n' c'], q, k, b⟩ ∈ M) (h' : ⟨.agg #[.bool s', .slice B m d, .slice B' m' d'], r, k', b'⟩ ∈ M) (hk : k + k' ≤ 900) :
    Calls Tryz.prog 45 #[.agg #[.bool s, .slice A n c, .slice A' n' c'], .agg #[.bool s', .slice B m d, .slice B' m' d']] w (GotQ W0 bs L ts M (maxQ q r) (k + k' + 2)) := by
  refine Calls.mono (R := (GotQ w [] L [] M (maxQ q r) (k + k' + 2))) ?_ fun _ _ hh => GotQ.of HE hh
  replace HE := ((HE.here.box3 (.bool s) (.slice A n c) (.slice A' n' c')).box3 (.bool s') (.slice B m d) (.slice B' m' d')).box3 (.bool false) (.slice none 0 0) (.slice none 0 0)
  simp only [World.size_alloc] at HE
  rcases cmp3 q r with hc | hc | hc
  · have HS := Lib.hid hc
    clear hc
    obtain ⟨q0, q1, q2, q3, q4, q5⟩ := HE.c3 (.head _)
    obtain ⟨q6, q7, q8, q9, q10, q11⟩ := HE.c3 (.tail _ (.head _))
    obtain ⟨q12, q13, q14, q15, q16, q17⟩ := HE.c3 (.tail _ (.tail _ (.head _)))
    go_enter Tryz.func45, Tryz.ntmps45
    go_wp2_with fail
    refine (rfcmp_f HE h h' (by omega)).mono ?_
    rw [HS.out.1]
    clear HE
    rintro e w1 ⟨rfl, HE⟩
    clear q0 q1 q2 q3 q4 q5 q6 q7 q8 q9 q10 q11 q12 q13 q14 q15 q16 q17
    obtain ⟨q18, q19, q20, q21, q22, q23⟩ := HE.c3 (.head _)
    obtain ⟨q24, q25, q26, q27, q28, q29⟩ := HE.c3 (.tail _ (.head _))
    obtain ⟨q30, q31, q32, q33, q34, q35⟩ := HE.c3 (.tail _ (.tail _ (.head _)))
    go_wp2_with fail
    replace HE := HE.zero 0
    refine (rfadd_f HE (.tail _ h') (.head _) (by omega)).mono ?_
    rw [Rat.add_zero]
    clear HE
    rintro e w2 ⟨sx, Ax, nx, cx, Ay, ny, cy, rfl, HE⟩
    clear q18 q19 q20 q21 q22 q23 q24 q25 q26 q27 q28 q29 q30 q31 q32 q33 q34 q35
    obtain ⟨z0, z1, z2, z3, z4, z5⟩ := HE.c3 (.head _)
    go_wp2_with fail
    refine bodyPost_ret (v := .agg #[.bool sx, .slice Ax nx cx, .slice Ay ny cy]) (by simp [results, Tryz.results45, go_sem, z0, z1, z2]) rfl ?_
    have HK := (HE.done3 (D := Ax) (m := nx) (d := cx) (.head _) sx (.slice Ay ny cy)).bare
    rw [HS.out.2.2]
    exact ⟨_, _, _, _, _, _, _, rfl, (HK.pick (M' := ⟨_, _, _, _⟩ :: M) (fun _ he => he) (fun _ he => by rcases List.mem_cons.1 he with rfl | he; exact .head _; exact .tail _ (.tail _ he))).hd (·.weak (by omega))⟩
  · have HS := Lib.hid hc
    clear hc
    obtain ⟨q0, q1, q2, q3, q4, q5⟩ := HE.c3 (.head _)
    obtain ⟨q6, q7, q8, q9, q10, q11⟩ := HE.c3 (.tail _ (.head _))
    obtain ⟨q12, q13, q14, q15, q16, q17⟩ := HE.c3 (.tail _ (.tail _ (.head _)))
    go_enter Tryz.func45, Tryz.ntmps45
    go_wp2_with fail
    refine (rfcmp_f HE h h' (by omega)).mono ?_
    rw [HS.out.1]
    clear HE
    rintro e w1 ⟨rfl, HE⟩
    clear q0 q1 q2 q3 q4 q5 q6 q7 q8 q9 q10 q11 q12 q13 q14 q15 q16 q17
    obtain ⟨q18, q19, q20, q21, q22, q23⟩ := HE.c3 (.head _)
    obtain ⟨q24, q25, q26, q27, q28, q29⟩ := HE.c3 (.tail _ (.head _))
    obtain ⟨q30, q31, q32, q33, q34, q35⟩ := HE.c3 (.tail _ (.tail _ (.head _)))
    go_wp2_with fail
    replace HE := HE.zero 0
    refine (rfadd_f HE (.tail _ h) (.head _) (by omega)).mono ?_
    rw [Rat.add_zero]
    clear HE
    rintro e w2 ⟨sx, Ax, nx, cx, Ay, ny, cy, rfl, HE⟩
    clear q18 q19 q20 q21 q22 q23 q24 q25 q26 q27 q28 q29 q30 q31 q32 q33 q34 q35
    obtain ⟨z0, z1, z2, z3, z4, z5⟩ := HE.c3 (.head _)
    go_wp2_with fail
    refine bodyPost_ret (v := .agg #[.bool sx, .slice Ax nx cx, .slice Ay ny cy]) (by simp [results, Tryz.results45, go_sem, z0, z1, z2]) rfl ?_
    have HK := (HE.done3 (D := Ax) (m := nx) (d := cx) (.head _) sx (.slice Ay ny cy)).bare
    rw [HS.out.2.2]
    exact ⟨_, _, _, _, _, _, _, rfl, (HK.pick (M' := ⟨_, _, _, _⟩ :: M) (fun _ he => he) (fun _ he => by rcases List.mem_cons.1 he with rfl | he; exact .head _; exact .tail _ (.tail _ he))).hd (·.weak (by omega))⟩
  · have HS := Lib.hid hc
    clear hc
    obtain ⟨q0, q1, q2, q3, q4, q5⟩ := HE.c3 (.head _)
    obtain ⟨q6, q7, q8, q9, q10, q11⟩ := HE.c3 (.tail _ (.head _))
    obtain ⟨q12, q13, q14, q15, q16, q17⟩ := HE.c3 (.tail _ (.tail _ (.head _)))
    go_enter Tryz.func45, Tryz.ntmps45
    go_wp2_with fail
    refine (rfcmp_f HE h h' (by omega)).mono ?_
    rw [HS.out.1]
    clear HE
    rintro e w1 ⟨rfl, HE⟩
    clear q0 q1 q2 q3 q4 q5 q6 q7 q8 q9 q10 q11 q12 q13 q14 q15 q16 q17
    obtain ⟨q18, q19, q20, q21, q22, q23⟩ := HE.c3 (.head _)
    obtain ⟨q24, q25, q26, q27, q28, q29⟩ := HE.c3 (.tail _ (.head _))
    obtain ⟨q30, q31, q32, q33, q34, q35⟩ := HE.c3 (.tail _ (.tail _ (.head _)))
    go_wp2_with fail
    replace HE := HE.zero 0
    refine (rfadd_f HE (.tail _ h) (.head _) (by omega)).mono ?_
    rw [Rat.add_zero]
    clear HE
    rintro e w2 ⟨sx, Ax, nx, cx, Ay, ny, cy, rfl, HE⟩
    clear q18 q19 q20 q21 q22 q23 q24 q25 q26 q27 q28 q29 q30 q31 q32 q33 q34 q35
    obtain ⟨z0, z1, z2, z3, z4, z5⟩ := HE.c3 (.head _)
    go_wp2_with fail
    refine bodyPost_ret (v := .agg #[.bool sx, .slice Ax nx cx, .slice Ay ny cy]) (by simp [results, Tryz.results45, go_sem, z0, z1, z2]) rfl ?_
    have HK := (HE.done3 (D := Ax) (m := nx) (d := cx) (.head _) sx (.slice Ay ny cy)).bare
    rw [HS.out.2.2]
    exact ⟨_, _, _, _, _, _, _, rfl, (HK.pick (M' := ⟨_, _, _, _⟩ :: M) (fun _ he => he) (fun _ he => by rcases List.mem_cons.1 he with rfl | he; exact .head _; exact .tail _ (.tail _ he))).hd (·.weak (by omega))⟩
set_option maxRecDepth 100000 in
set_option maxHeartbeats 1600000 in
theorem rffrom_f (HE : FEnv W0 w bs L ts M) (h : ⟨.agg #[.bool s, .slice A n c], x, k, b⟩ ∈ L) (h' : ⟨.agg #[.bool s', .slice A' n' c'], y, k', b'⟩ ∈ L) (hk : k + k' ≤ 4000) (hy : y ≠ 0) :
    Calls Tryz.prog 17 #[.agg #[.bool s, .slice A n c], .agg #[.bool s', .slice A' n' c']] w (fun e w' => ∃ (s : Bool) (A : Option Addr) (n c : Nat) (A' : Option Addr) (n' c' : Nat), e = .returned (.tuple #[.agg #[.bool s, .slice A n c, .slice A' n' c'], .int .i64 0]) ∧ FEnv W0 w' bs L ts (⟨.agg #[.bool s, .slice A n c, .slice A' n' c'], Rat.divInt x y, k + 1 + (k' + 1), true⟩ :: M)) := by
  refine Calls.mono (R := (fun e w' => ∃ (s : Bool) (A : Option Addr) (n c : Nat) (A' : Option Addr) (n' c' : Nat), e = .returned (.tuple #[.agg #[.bool s, .slice A n c, .slice A' n' c'], .int .i64 0]) ∧ FEnv w w' [] L [] (⟨.agg #[.bool s, .slice A n c, .slice A' n' c'], Rat.divInt x y, k + 1 + (k' + 1), true⟩ :: M))) ?_ fun _ _ hh => by obtain ⟨s, A, n, c, A', n', c', e1, he⟩ := hh; exact ⟨s, A, n, c, A', n', c', e1, HE.back he⟩
  replace HE := ((HE.here.box2 (.bool s) (.slice A n c)).box2 (.bool s') (.slice A' n' c')).box3 (.bool false) (.slice none 0 0) (.slice none 0 0)
  simp only [World.size_alloc] at HE
  have hs : (signI y == 0) = false := by rw [beq_eq_false_iff_ne]; unfold signI; split; decide; first | decide | (rw [if_neg hy]; decide)
  have HY := Lib.hid hy
  clear hy
  obtain ⟨q0, q1, q2, q3⟩ := HE.c2 (.head _)
  obtain ⟨q4, q5, q6, q7⟩ := HE.c2 (.tail _ (.head _))
  obtain ⟨q8, q9, q10, q11, q12, q13⟩ := HE.c3 (.head _)
  go_enter Tryz.func17, Tryz.ntmps17
  go_wp2_with fail
  refine (rsign_f HE h' (by omega)).mono ?_
  clear HE
  rintro e w1 ⟨rfl, HE⟩
  clear q0 q1 q2 q3 q4 q5 q6 q7 q8 q9 q10 q11 q12 q13
  obtain ⟨q14, q15, q16, q17⟩ := HE.c2 (.head _)
  obtain ⟨q18, q19, q20, q21⟩ := HE.c2 (.tail _ (.head _))
  obtain ⟨q22, q23, q24, q25, q26, q27⟩ := HE.c3 (.head _)
  go_wp2_with fail
  refine (form_f HE h h' hk HY.out).mono ?_
  clear HE
  rintro e w2 ⟨sx, Ax, nx, cx, Ay, ny, cy, rfl, HE⟩
  clear q14 q15 q16 q17 q18 q19 q20 q21 q22 q23 q24 q25 q26 q27
  obtain ⟨z0, z1, z2, z3, z4, z5⟩ := HE.c3 (.head _)
  go_wp2_with fail
  refine bodyPost_ret (v := .tuple #[.agg #[.bool sx, .slice Ax nx cx, .slice Ay ny cy], .int .i64 0]) (by simp [results, Tryz.results17, go_sem, z0, z1, z2]) rfl ?_
  exact ⟨_, _, _, _, _, _, _, rfl, (HE.done3 (D := Ax) (m := nx) (d := cx) (.head _) sx (.slice Ay ny cy)).bare⟩
set_option maxRecDepth 100000 in
set_option maxHeartbeats 1600000 in
theorem rffromz_f (HE : FEnv W0 w bs L ts M) (_h : ⟨.agg #[.bool s, .slice A n c], x, k, b⟩ ∈ L) (h' : ⟨.agg #[.bool s', .slice A' n' c'], y, k', b'⟩ ∈ L) (hk : k + k' ≤ 4000) (hy : y = 0) :
    Calls Tryz.prog 17 #[.agg #[.bool s, .slice A n c], .agg #[.bool s', .slice A' n' c']] w (fun e w' => e = .returned (.tuple #[.agg #[.bool false, .slice none 0 0, .slice none 0 0], .int .i64 8]) ∧ FEnv W0 w' bs L ts M) := by
  refine Calls.mono (R := (fun e w' => e = .returned (.tuple #[.agg #[.bool false, .slice none 0 0, .slice none 0 0], .int .i64 8]) ∧ FEnv w w' [] L [] M)) ?_ fun _ _ hh => ⟨hh.1, HE.back hh.2⟩
  replace HE := ((HE.here.box2 (.bool s) (.slice A n c)).box2 (.bool s') (.slice A' n' c')).box3 (.bool false) (.slice none 0 0) (.slice none 0 0)
  simp only [World.size_alloc] at HE
  have HS := Lib.hid (show signI y = 0 by unfold signI; rw [if_neg (by omega), if_pos hy])
  have HY := Lib.hid hy
  clear hy
  obtain ⟨q0, q1, q2, q3⟩ := HE.c2 (.head _)
  obtain ⟨q4, q5, q6, q7⟩ := HE.c2 (.tail _ (.head _))
  obtain ⟨q8, q9, q10, q11, q12, q13⟩ := HE.c3 (.head _)
  go_enter Tryz.func17, Tryz.ntmps17
  go_wp2_with fail
  refine (rsign_f HE h' (by omega)).mono ?_
  rw [HS.out]
  clear HE
  rintro e w1 ⟨rfl, HE⟩
  clear q0 q1 q2 q3 q4 q5 q6 q7 q8 q9 q10 q11 q12 q13
  obtain ⟨q14, q15, q16, q17⟩ := HE.c2 (.head _)
  obtain ⟨q18, q19, q20, q21⟩ := HE.c2 (.tail _ (.head _))
  obtain ⟨q22, q23, q24, q25, q26, q27⟩ := HE.c3 (.head _)
  have TF := (HE.tri3 (.head _)).put (.bool false) (.slice none 0 0) (.slice none 0 0)
  go_wp2_with fail
  obtain ⟨z0, z1, z2, -, -, -⟩ := TF.cells
  refine bodyPost_ret (v := .tuple #[.agg #[.bool false, .slice none 0 0, .slice none 0 0], .int .i64 8]) (by simp [results, Tryz.results17, go_sem, z0, z1, z2]) rfl ?_
  exact ⟨rfl, (HE.done3 (D := none) (m := 0) (d := 0) (.head _) false (.slice none 0 0)).bare⟩
set_option maxRecDepth 100000 in
set_option maxHeartbeats 3200000 in
theorem rfdiv_f (HE : FEnv W0 w bs L ts M) (h : ⟨.agg #[.bool s, .slice A n c, .slice A' n' c'], q, k, b⟩ ∈ M) (h' : ⟨.agg #[.bool s', .slice B m d, .slice B' m' d'], r, k', b'⟩ ∈ M) (hk : k + k' ≤ 900) (hr : r ≠ 0) :
    Calls Tryz.prog 27 #[.agg #[.bool s, .slice A n c, .slice A' n' c'], .agg #[.bool s', .slice B m d, .slice B' m' d']] w (fun e w' => ∃ (s : Bool) (A : Option Addr) (n c : Nat) (A' : Option Addr) (n' c' : Nat), e = .returned (.tuple #[.agg #[.bool s, .slice A n c, .slice A' n' c'], .int .i64 0]) ∧ FEnv W0 w' bs L ts (⟨.agg #[.bool s, .slice A n c, .slice A' n' c'], q * r⁻¹, 2 * k + 2 * k' + 12, true⟩ :: M)) := by
  refine Calls.mono (R := (fun e w' => ∃ (s : Bool) (A : Option Addr) (n c : Nat) (A' : Option Addr) (n' c' : Nat), e = .returned (.tuple #[.agg #[.bool s, .slice A n c, .slice A' n' c'], .int .i64 0]) ∧ FEnv w w' [] L [] (⟨.agg #[.bool s, .slice A n c, .slice A' n' c'], q * r⁻¹, 2 * k + 2 * k' + 12, true⟩ :: M))) ?_ fun _ _ hh => by obtain ⟨s, A, n, c, A', n', c', e1, he⟩ := hh; exact ⟨s, A, n, c, A', n', c', e1, HE.back he⟩
  have HD := Lib.hid (Int.mul_ne_zero (den_ne q) (fun e => hr (Rat.num_eq_zero.1 e)))
  have HV := Lib.hid (div_ratio q r)
  clear hr
  replace HE := ((HE.here.box3 (.bool s) (.slice A n c) (.slice A' n' c')).box3 (.bool s') (.slice B m d) (.slice B' m' d')).box3 (.bool false) (.slice none 0 0) (.slice none 0 0)
  simp only [World.size_alloc] at HE
  obtain ⟨q0, q1, q2, q3, q4, q5⟩ := HE.c3 (.head _)
  obtain ⟨q6, q7, q8, q9, q10, q11⟩ := HE.c3 (.tail _ (.head _))
  obtain ⟨q12, q13, q14, q15, q16, q17⟩ := HE.c3 (.tail _ (.tail _ (.head _)))
  go_enter Tryz.func27, Tryz.ntmps27
  go_wp2_with fail
  refine (rparts_f HE h (by omega)).mono ?_
  clear HE
  rintro e w1 ⟨s1, D1, m1, d1, s2, D2, m2, d2, rfl, HE⟩
  replace HE := (HE.box2 (.bool s1) (.slice D1 m1 d1)).box2 (.bool s2) (.slice D2 m2 d2)
  simp only [World.size_alloc] at HE
  clear q0 q1 q2 q3 q4 q5 q6 q7 q8 q9 q10 q11 q12 q13 q14 q15 q16 q17
  obtain ⟨q18, q19, q20, q21⟩ := HE.c2 (.head _)
  obtain ⟨q22, q23, q24, q25⟩ := HE.c2 (.tail _ (.head _))
  obtain ⟨q26, q27, q28, q29, q30, q31⟩ := HE.c3 (.head _)
  obtain ⟨q32, q33, q34, q35, q36, q37⟩ := HE.c3 (.tail _ (.head _))
  obtain ⟨q38, q39, q40, q41, q42, q43⟩ := HE.c3 (.tail _ (.tail _ (.head _)))
  go_wp2_with fail
  refine (rparts_f HE h' (by omega)).mono ?_
  clear HE
  rintro e w2 ⟨s3, D3, m3, d3, s4, D4, m4, d4, rfl, HE⟩
  replace HE := (HE.box2 (.bool s3) (.slice D3 m3 d3)).box2 (.bool s4) (.slice D4 m4 d4)
  simp only [World.size_alloc] at HE
  clear q18 q19 q20 q21 q22 q23 q24 q25 q26 q27 q28 q29 q30 q31 q32 q33 q34 q35 q36 q37 q38 q39 q40 q41 q42 q43
  obtain ⟨q44, q45, q46, q47⟩ := HE.c2 (.head _)
  obtain ⟨q48, q49, q50, q51⟩ := HE.c2 (.tail _ (.head _))
  obtain ⟨q52, q53, q54, q55⟩ := HE.c2 (.tail _ (.tail _ (.head _)))
  obtain ⟨q56, q57, q58, q59⟩ := HE.c2 (.tail _ (.tail _ (.tail _ (.head _))))
  obtain ⟨q60, q61, q62, q63, q64, q65⟩ := HE.c3 (.head _)
  obtain ⟨q66, q67, q68, q69, q70, q71⟩ := HE.c3 (.tail _ (.head _))
  obtain ⟨q72, q73, q74, q75, q76, q77⟩ := HE.c3 (.tail _ (.tail _ (.head _)))
  go_wp2_with fail
  go_region_held3 (fun w' => w'.cell? ⟨w1.heap.size, 0, none⟩ = some (.bool s1) ∧ w'.cell? ⟨w1.heap.size, 1, none⟩ = some (.slice D1 m1 d1) ∧ w'.cell? ⟨w1.heap.size + 1, 0, none⟩ = some (.bool s2) ∧ w'.cell? ⟨w1.heap.size + 1, 1, none⟩ = some (.slice D2 m2 d2) ∧ w'.cell? ⟨w2.heap.size, 0, none⟩ = some (.bool s3) ∧ w'.cell? ⟨w2.heap.size, 1, none⟩ = some (.slice D3 m3 d3) ∧ w'.cell? ⟨w2.heap.size + 1, 0, none⟩ = some (.bool s4) ∧ w'.cell? ⟨w2.heap.size + 1, 1, none⟩ = some (.slice D4 m4 d4)) (first | exact ⟨(HE.c2 (.tail _ (.tail _ (.tail _ (.head _))))).1, (HE.c2 (.tail _ (.tail _ (.tail _ (.head _))))).2.1, (HE.c2 (.tail _ (.tail _ (.head _)))).1, (HE.c2 (.tail _ (.tail _ (.head _)))).2.1, (HE.c2 (.tail _ (.head _))).1, (HE.c2 (.tail _ (.head _))).2.1, (HE.c2 (.head _)).1, (HE.c2 (.head _)).2.1⟩ | exact ⟨(HE.drew.c2 (.tail _ (.tail _ (.tail _ (.head _))))).1, (HE.drew.c2 (.tail _ (.tail _ (.tail _ (.head _))))).2.1, (HE.drew.c2 (.tail _ (.tail _ (.head _)))).1, (HE.drew.c2 (.tail _ (.tail _ (.head _)))).2.1, (HE.drew.c2 (.tail _ (.head _))).1, (HE.drew.c2 (.tail _ (.head _))).2.1, (HE.drew.c2 (.head _)).1, (HE.drew.c2 (.head _)).2.1⟩ | exact ⟨(HK.c2 (.tail _ (.tail _ (.tail _ (.head _))))).1, (HK.c2 (.tail _ (.tail _ (.tail _ (.head _))))).2.1, (HK.c2 (.tail _ (.tail _ (.head _)))).1, (HK.c2 (.tail _ (.tail _ (.head _)))).2.1, (HK.c2 (.tail _ (.head _))).1, (HK.c2 (.tail _ (.head _))).2.1, (HK.c2 (.head _)).1, (HK.c2 (.head _)).2.1⟩)
    (first
      | (go_at_call 83; refine (rmul_f (by with_reducible first | exact HE | exact HE.drew) (by repeat (first | exact .head _ | assumption | refine .tail _ ?_)) (by repeat (first | exact .head _ | assumption | refine .tail _ ?_)) (by omega)).mono ?_; rintro e wn ⟨sx, Ax, nx, cx, rfl, HE⟩)
      | (go_at_call 17; refine (rffrom_f (by with_reducible first | exact HE | exact HE.drew) (by repeat (first | exact .head _ | assumption | refine .tail _ ?_)) (by repeat (first | exact .head _ | assumption | refine .tail _ ?_)) (by omega) HD.out).mono ?_; rintro e wn ⟨sx, Ax, nx, cx, Ay, ny, cy, rfl, HE⟩; have HK := HE.done3 (D := Ax) (m := nx) (d := cx) (.head _) sx (.slice Ay ny cy); obtain ⟨z0, z1, z2, z3, z4, z5⟩ := HE.c3 (.head _)))
  go_wp2_with fail
  refine bodyPost_ret (v := .tuple #[.agg #[.bool sx, .slice Ax nx cx, .slice Ay ny cy], .int .i64 0]) (by simp [results, Tryz.results27, go_sem, z0, z1, z2]) rfl ?_
  rw [HV.out]
  exact ⟨_, _, _, _, _, _, _, rfl, (HK.bare.pick (fun e he => .tail _ (.tail _ (.tail _ (.tail _ (.tail _ (.tail _ (he))))))) (fun _ he => he)).hd (·.weak (by omega))⟩
set_option maxRecDepth 100000 in
set_option maxHeartbeats 3200000 in
theorem rfdivz_f (HE : FEnv W0 w bs L ts M) (h : ⟨.agg #[.bool s, .slice A n c, .slice A' n' c'], q, k, b⟩ ∈ M) (h' : ⟨.agg #[.bool s', .slice B m d, .slice B' m' d'], r, k', b'⟩ ∈ M) (hk : k + k' ≤ 900) (hr : r = 0) :
    Calls Tryz.prog 27 #[.agg #[.bool s, .slice A n c, .slice A' n' c'], .agg #[.bool s', .slice B m d, .slice B' m' d']] w (fun e w' => e = .returned (.tuple #[.agg #[.bool false, .slice none 0 0, .slice none 0 0], .int .i64 8]) ∧ FEnv W0 w' bs L ts M) := by
  refine Calls.mono (R := (fun e w' => e = .returned (.tuple #[.agg #[.bool false, .slice none 0 0, .slice none 0 0], .int .i64 8]) ∧ FEnv w w' [] L [] M)) ?_ fun _ _ hh => ⟨hh.1, HE.back hh.2⟩
  have HD := Lib.hid (show (q.den : Int) * r.num = 0 by rw [hr]; exact Int.mul_zero _)
  clear hr
  replace HE := ((HE.here.box3 (.bool s) (.slice A n c) (.slice A' n' c')).box3 (.bool s') (.slice B m d) (.slice B' m' d')).box3 (.bool false) (.slice none 0 0) (.slice none 0 0)
  simp only [World.size_alloc] at HE
  obtain ⟨q0, q1, q2, q3, q4, q5⟩ := HE.c3 (.head _)
  obtain ⟨q6, q7, q8, q9, q10, q11⟩ := HE.c3 (.tail _ (.head _))
  obtain ⟨q12, q13, q14, q15, q16, q17⟩ := HE.c3 (.tail _ (.tail _ (.head _)))
  go_enter Tryz.func27, Tryz.ntmps27
  go_wp2_with fail
  refine (rparts_f HE h (by omega)).mono ?_
  clear HE
  rintro e w1 ⟨s1, D1, m1, d1, s2, D2, m2, d2, rfl, HE⟩
  replace HE := (HE.box2 (.bool s1) (.slice D1 m1 d1)).box2 (.bool s2) (.slice D2 m2 d2)
  simp only [World.size_alloc] at HE
  clear q0 q1 q2 q3 q4 q5 q6 q7 q8 q9 q10 q11 q12 q13 q14 q15 q16 q17
  obtain ⟨q18, q19, q20, q21⟩ := HE.c2 (.head _)
  obtain ⟨q22, q23, q24, q25⟩ := HE.c2 (.tail _ (.head _))
  obtain ⟨q26, q27, q28, q29, q30, q31⟩ := HE.c3 (.head _)
  obtain ⟨q32, q33, q34, q35, q36, q37⟩ := HE.c3 (.tail _ (.head _))
  obtain ⟨q38, q39, q40, q41, q42, q43⟩ := HE.c3 (.tail _ (.tail _ (.head _)))
  go_wp2_with fail
  refine (rparts_f HE h' (by omega)).mono ?_
  clear HE
  rintro e w2 ⟨s3, D3, m3, d3, s4, D4, m4, d4, rfl, HE⟩
  replace HE := (HE.box2 (.bool s3) (.slice D3 m3 d3)).box2 (.bool s4) (.slice D4 m4 d4)
  simp only [World.size_alloc] at HE
  clear q18 q19 q20 q21 q22 q23 q24 q25 q26 q27 q28 q29 q30 q31 q32 q33 q34 q35 q36 q37 q38 q39 q40 q41 q42 q43
  obtain ⟨q44, q45, q46, q47⟩ := HE.c2 (.head _)
  obtain ⟨q48, q49, q50, q51⟩ := HE.c2 (.tail _ (.head _))
  obtain ⟨q52, q53, q54, q55⟩ := HE.c2 (.tail _ (.tail _ (.head _)))
  obtain ⟨q56, q57, q58, q59⟩ := HE.c2 (.tail _ (.tail _ (.tail _ (.head _))))
  obtain ⟨q60, q61, q62, q63, q64, q65⟩ := HE.c3 (.head _)
  obtain ⟨q66, q67, q68, q69, q70, q71⟩ := HE.c3 (.tail _ (.head _))
  obtain ⟨q72, q73, q74, q75, q76, q77⟩ := HE.c3 (.tail _ (.tail _ (.head _)))
  go_wp2_with fail
  go_region_held3 (fun w' => w'.cell? ⟨w1.heap.size, 0, none⟩ = some (.bool s1) ∧ w'.cell? ⟨w1.heap.size, 1, none⟩ = some (.slice D1 m1 d1) ∧ w'.cell? ⟨w1.heap.size + 1, 0, none⟩ = some (.bool s2) ∧ w'.cell? ⟨w1.heap.size + 1, 1, none⟩ = some (.slice D2 m2 d2) ∧ w'.cell? ⟨w2.heap.size, 0, none⟩ = some (.bool s3) ∧ w'.cell? ⟨w2.heap.size, 1, none⟩ = some (.slice D3 m3 d3) ∧ w'.cell? ⟨w2.heap.size + 1, 0, none⟩ = some (.bool s4) ∧ w'.cell? ⟨w2.heap.size + 1, 1, none⟩ = some (.slice D4 m4 d4)) (first | exact ⟨(HE.c2 (.tail _ (.tail _ (.tail _ (.head _))))).1, (HE.c2 (.tail _ (.tail _ (.tail _ (.head _))))).2.1, (HE.c2 (.tail _ (.tail _ (.head _)))).1, (HE.c2 (.tail _ (.tail _ (.head _)))).2.1, (HE.c2 (.tail _ (.head _))).1, (HE.c2 (.tail _ (.head _))).2.1, (HE.c2 (.head _)).1, (HE.c2 (.head _)).2.1⟩ | exact ⟨(HE.drew.c2 (.tail _ (.tail _ (.tail _ (.head _))))).1, (HE.drew.c2 (.tail _ (.tail _ (.tail _ (.head _))))).2.1, (HE.drew.c2 (.tail _ (.tail _ (.head _)))).1, (HE.drew.c2 (.tail _ (.tail _ (.head _)))).2.1, (HE.drew.c2 (.tail _ (.head _))).1, (HE.drew.c2 (.tail _ (.head _))).2.1, (HE.drew.c2 (.head _)).1, (HE.drew.c2 (.head _)).2.1⟩ | exact ⟨(HK.c2 (.tail _ (.tail _ (.tail _ (.head _))))).1, (HK.c2 (.tail _ (.tail _ (.tail _ (.head _))))).2.1, (HK.c2 (.tail _ (.tail _ (.head _)))).1, (HK.c2 (.tail _ (.tail _ (.head _)))).2.1, (HK.c2 (.tail _ (.head _))).1, (HK.c2 (.tail _ (.head _))).2.1, (HK.c2 (.head _)).1, (HK.c2 (.head _)).2.1⟩)
    (first
      | (go_at_call 83; refine (rmul_f (by with_reducible first | exact HE | exact HE.drew) (by repeat (first | exact .head _ | assumption | refine .tail _ ?_)) (by repeat (first | exact .head _ | assumption | refine .tail _ ?_)) (by omega)).mono ?_; rintro e wn ⟨sx, Ax, nx, cx, rfl, HE⟩)
      | (go_at_call 17; refine (rffromz_f (by with_reducible first | exact HE | exact HE.drew) (by repeat (first | exact .head _ | assumption | refine .tail _ ?_)) (by repeat (first | exact .head _ | assumption | refine .tail _ ?_)) (by omega) HD.out).mono ?_; rintro e wn ⟨rfl, HE⟩; have HK := HE.done3 (D := none) (m := 0) (d := 0) (.head _) false (.slice none 0 0); obtain ⟨z0, z1, z2, z3, z4, z5⟩ := HE.c3 (.head _)))
  go_wp2_with fail
  refine bodyPost_ret (v := .tuple #[.agg #[.bool false, .slice none 0 0, .slice none 0 0], .int .i64 8]) (by simp [results, Tryz.results27, go_sem, z0, z1, z2]) rfl ?_
  exact ⟨rfl, HK.bare.pick (fun e he => .tail _ (.tail _ (.tail _ (.tail _ (.tail _ (.tail _ (he))))))) (fun _ he => he)⟩
end
end Go.Proofs.YtdecmhcojdnokaaGreatDoor
