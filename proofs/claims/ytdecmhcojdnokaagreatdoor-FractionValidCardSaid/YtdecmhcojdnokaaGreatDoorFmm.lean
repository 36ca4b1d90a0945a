/- Walks of fraction: Min, Max. -/
import Derived.Test.YtdecmhcojdnokaaGreatDoorFawake
import Derived.Deep.RegionWith
namespace Lw
open Go Go.RowKit
/-- The lesser and the greater one. -/
def minQ (q r : Rat) : Rat := if cmpQ r q < 0 then r else q
def maxQ (q r : Rat) : Rat := if 0 < cmpQ r q then r else q
end Lw
namespace Go.Proofs.YtdecmhcojdnokaaGreatDoor
open Go Go.RowKit Lw
section
variable {W0 w : World} {bs : List Bx} {L : List En} {ts : List Bt} {M : List Qn} {s s' : Bool} {A A' B B' : Option Addr} {n c n' c' m d m' d' k k' : Nat} {q r : Rat} {x y : Int} {b b' : Bool}
set_option maxRecDepth 100000 in
set_option maxHeartbeats 4000000 in
theorem fmin_f (HE : FEnv W0 w bs L ts M) (h : ⟨.agg #[.bool s, .slice A n c, .slice A' n' c'], q, k, b⟩ ∈ M) (h' : ⟨.agg #[.bool s', .slice B m d, .slice B' m' d'], r, k', b'⟩ ∈ M) (hk : k + k' ≤ 8000) :
    Calls Tryz.prog 42 #[.agg #[.bool s, .slice A n c, .slice A' n' c'], .agg #[.bool s', .slice B m d, .slice B' m' d']] w (GotQ W0 bs L ts M (minQ q r) (k + k')) := by
  refine Calls.mono (R := (GotQ w [] L [] M (minQ q r) (k + k'))) ?_ fun _ _ hh => GotQ.of HE hh
  by_cases hc : cmpQ r q < 0
  · have HV := Lib.hid (show minQ q r = r by unfold minQ; rw [if_pos hc])
    have hcc : decide (cmpQ r q < 0) = true := by rw [decide_eq_true hc]
    clear hc
    replace HE := ((HE.here.box3 (.bool s) (.slice A n c) (.slice A' n' c')).box3 (.bool s') (.slice B m d) (.slice B' m' d')).box3 (.bool false) (.slice none 0 0) (.slice none 0 0)
    simp only [World.size_alloc] at HE
    obtain ⟨q0, q1, q2, q3, q4, q5⟩ := HE.c3 (.head _)
    obtain ⟨q6, q7, q8, q9, q10, q11⟩ := HE.c3 (.tail _ (.head _))
    obtain ⟨q12, q13, q14, q15, q16, q17⟩ := HE.c3 (.tail _ (.tail _ (.head _)))
    go_enter Tryz.func42, Tryz.ntmps42
    go_wp2_with fail
    go_region_with
      (first
        | (go_at_call 70; have _ := HC1; refine (known_f (by with_reducible first | exact HE | exact HE.drew) (.tail _ h') (by omega)).mono ?_; rintro e w2 ⟨sb, Ba, ma, da, Bb, mb, db, rfl, HE⟩; obtain ⟨v0, v1, v2, v3, v4, v5⟩ := HE.c3 (.tail _ (.tail _ (.head _))); obtain ⟨v6, v7, v8, v9, v10, v11⟩ := HE.c3 (.tail _ (.head _)))
        | (go_at_call 70; refine (known_f (by with_reducible first | exact HE | exact HE.drew) h (by omega)).mono ?_; rintro e w1 ⟨sa, Aa, na, ca, Ab, nb, cb, rfl, HE⟩; have HC1 := HE; obtain ⟨u0, u1, u2, u3, u4, u5⟩ := HE.c3 (.tail _ (.tail _ (.head _))); obtain ⟨u6, u7, u8, u9, u10, u11⟩ := HE.c3 (.tail _ (.head _))))
    all_goals
      first | clear q0 q1 q2 q3 q4 q5 q6 q7 q8 q9 q10 q11 q12 q13 q14 q15 q16 q17 u0 u1 u2 u3 u4 u5 u6 u7 u8 u9 u10 u11 v0 v1 v2 v3 v4 v5 v6 v7 v8 v9 v10 v11 HC1 | skip
      replace HE := (HE.put3 (s' := sa) (D := Aa) (m := na) (d := ca) (v := .slice Ab nb cb) (.tail _ (.tail _ (.head _))) [⟨w.heap.size + 1 + 1, .bool false, .slice none 0 0, .slice none 0 0⟩, ⟨w.heap.size + 1, .bool s', .slice B m d, .slice B' m' d'⟩] (fun b hb => by simp only [List.mem_cons, List.not_mem_nil, or_false] at hb; rcases hb with rfl | rfl <;> exact ⟨(by repeat (first | exact .head _ | assumption | refine .tail _ ?_)), by dsimp only; omega⟩)).put3 (s' := sb) (D := Ba) (m := ma) (d := da) (v := .slice Bb mb db) (.tail _ (.tail _ (.head _))) [⟨w.heap.size, .bool sa, .slice Aa na ca, .slice Ab nb cb⟩, ⟨w.heap.size + 1 + 1, .bool false, .slice none 0 0, .slice none 0 0⟩] (fun b hb => by simp only [List.mem_cons, List.not_mem_nil, or_false] at hb; rcases hb with rfl | rfl <;> exact ⟨(by repeat (first | exact .head _ | assumption | refine .tail _ ?_)), by dsimp only; omega⟩)
      generalize (((((((w2.setCell ⟨w.heap.size, 0, none⟩ (.bool sa)).setCell ⟨w.heap.size, 1, none⟩ (.slice Aa na ca)).setCell ⟨w.heap.size, 2, none⟩ (.slice Ab nb cb)).setCell ⟨w.heap.size + 1, 0, none⟩ (.bool sb)).setCell ⟨w.heap.size + 1, 1, none⟩ (.slice Ba ma da)).setCell ⟨w.heap.size + 1, 2, none⟩ (.slice Bb mb db))) = W5 at *
      obtain ⟨q18, q19, q20, q21, q22, q23⟩ := HE.c3 (.head _)
      obtain ⟨q24, q25, q26, q27, q28, q29⟩ := HE.c3 (.tail _ (.head _))
      obtain ⟨q30, q31, q32, q33, q34, q35⟩ := HE.c3 (.tail _ (.tail _ (.head _)))
      go_wp2_with fail
      refine (compare_f HE (.head _) (.tail _ (.head _)) (by omega)).mono ?_
      clear HE
      rintro e w3 ⟨rfl, HE⟩
      clear q18 q19 q20 q21 q22 q23 q24 q25 q26 q27 q28 q29 q30 q31 q32 q33 q34 q35
      obtain ⟨q36, q37, q38, q39, q40, q41⟩ := HE.c3 (.head _)
      obtain ⟨q42, q43, q44, q45, q46, q47⟩ := HE.c3 (.tail _ (.head _))
      obtain ⟨q48, q49, q50, q51, q52, q53⟩ := HE.c3 (.tail _ (.tail _ (.head _)))
      go_wp2_with fail
      refine (clone_f HE (.head _) (by omega)).mono ?_
      clear HE
      rintro e w4 ⟨sx, Ax, nx, cx, Ay, ny, cy, rfl, HE⟩
      clear q36 q37 q38 q39 q40 q41 q42 q43 q44 q45 q46 q47 q48 q49 q50 q51 q52 q53
      obtain ⟨z0, z1, z2, z3, z4, z5⟩ := HE.c3 (.tail _ (.tail _ (.head _)))
      go_wp2_with fail
      refine bodyPost_ret (v := .agg #[.bool sx, .slice Ax nx cx, .slice Ay ny cy]) (by simp [results, Tryz.results42, go_sem, z0, z1, z2]) rfl ?_
      have HK := (HE.done3 (D := Ax) (m := nx) (d := cx) (.tail _ (.tail _ (.head _))) sx (.slice Ay ny cy)).bare
      rw [HV.out]
      exact ⟨_, _, _, _, _, _, _, rfl, (HK.pick (M' := ⟨_, _, _, _⟩ :: M) (fun _ he => he) (fun _ he => by rcases List.mem_cons.1 he with rfl | he; exact .head _; exact .tail _ (.tail _ (.tail _ he)))).hd (·.weak (by omega))⟩
  · have HV := Lib.hid (show minQ q r = q by unfold minQ; rw [if_neg hc])
    have hcc : decide (cmpQ r q < 0) = false := by rw [decide_eq_false hc]
    clear hc
    replace HE := ((HE.here.box3 (.bool s) (.slice A n c) (.slice A' n' c')).box3 (.bool s') (.slice B m d) (.slice B' m' d')).box3 (.bool false) (.slice none 0 0) (.slice none 0 0)
    simp only [World.size_alloc] at HE
    obtain ⟨q0, q1, q2, q3, q4, q5⟩ := HE.c3 (.head _)
    obtain ⟨q6, q7, q8, q9, q10, q11⟩ := HE.c3 (.tail _ (.head _))
    obtain ⟨q12, q13, q14, q15, q16, q17⟩ := HE.c3 (.tail _ (.tail _ (.head _)))
    go_enter Tryz.func42, Tryz.ntmps42
    go_wp2_with fail
    go_region_with
      (first
        | (go_at_call 70; have _ := HC1; refine (known_f (by with_reducible first | exact HE | exact HE.drew) (.tail _ h') (by omega)).mono ?_; rintro e w2 ⟨sb, Ba, ma, da, Bb, mb, db, rfl, HE⟩; obtain ⟨v0, v1, v2, v3, v4, v5⟩ := HE.c3 (.tail _ (.tail _ (.head _))); obtain ⟨v6, v7, v8, v9, v10, v11⟩ := HE.c3 (.tail _ (.head _)))
        | (go_at_call 70; refine (known_f (by with_reducible first | exact HE | exact HE.drew) h (by omega)).mono ?_; rintro e w1 ⟨sa, Aa, na, ca, Ab, nb, cb, rfl, HE⟩; have HC1 := HE; obtain ⟨u0, u1, u2, u3, u4, u5⟩ := HE.c3 (.tail _ (.tail _ (.head _))); obtain ⟨u6, u7, u8, u9, u10, u11⟩ := HE.c3 (.tail _ (.head _))))
    all_goals
      first | clear q0 q1 q2 q3 q4 q5 q6 q7 q8 q9 q10 q11 q12 q13 q14 q15 q16 q17 u0 u1 u2 u3 u4 u5 u6 u7 u8 u9 u10 u11 v0 v1 v2 v3 v4 v5 v6 v7 v8 v9 v10 v11 HC1 | skip
      replace HE := (HE.put3 (s' := sa) (D := Aa) (m := na) (d := ca) (v := .slice Ab nb cb) (.tail _ (.tail _ (.head _))) [⟨w.heap.size + 1 + 1, .bool false, .slice none 0 0, .slice none 0 0⟩, ⟨w.heap.size + 1, .bool s', .slice B m d, .slice B' m' d'⟩] (fun b hb => by simp only [List.mem_cons, List.not_mem_nil, or_false] at hb; rcases hb with rfl | rfl <;> exact ⟨(by repeat (first | exact .head _ | assumption | refine .tail _ ?_)), by dsimp only; omega⟩)).put3 (s' := sb) (D := Ba) (m := ma) (d := da) (v := .slice Bb mb db) (.tail _ (.tail _ (.head _))) [⟨w.heap.size, .bool sa, .slice Aa na ca, .slice Ab nb cb⟩, ⟨w.heap.size + 1 + 1, .bool false, .slice none 0 0, .slice none 0 0⟩] (fun b hb => by simp only [List.mem_cons, List.not_mem_nil, or_false] at hb; rcases hb with rfl | rfl <;> exact ⟨(by repeat (first | exact .head _ | assumption | refine .tail _ ?_)), by dsimp only; omega⟩)
      generalize (((((((w2.setCell ⟨w.heap.size, 0, none⟩ (.bool sa)).setCell ⟨w.heap.size, 1, none⟩ (.slice Aa na ca)).setCell ⟨w.heap.size, 2, none⟩ (.slice Ab nb cb)).setCell ⟨w.heap.size + 1, 0, none⟩ (.bool sb)).setCell ⟨w.heap.size + 1, 1, none⟩ (.slice Ba ma da)).setCell ⟨w.heap.size + 1, 2, none⟩ (.slice Bb mb db))) = W5 at *
      obtain ⟨q18, q19, q20, q21, q22, q23⟩ := HE.c3 (.head _)
      obtain ⟨q24, q25, q26, q27, q28, q29⟩ := HE.c3 (.tail _ (.head _))
      obtain ⟨q30, q31, q32, q33, q34, q35⟩ := HE.c3 (.tail _ (.tail _ (.head _)))
      go_wp2_with fail
      refine (compare_f HE (.head _) (.tail _ (.head _)) (by omega)).mono ?_
      clear HE
      rintro e w3 ⟨rfl, HE⟩
      clear q18 q19 q20 q21 q22 q23 q24 q25 q26 q27 q28 q29 q30 q31 q32 q33 q34 q35
      obtain ⟨q36, q37, q38, q39, q40, q41⟩ := HE.c3 (.head _)
      obtain ⟨q42, q43, q44, q45, q46, q47⟩ := HE.c3 (.tail _ (.head _))
      obtain ⟨q48, q49, q50, q51, q52, q53⟩ := HE.c3 (.tail _ (.tail _ (.head _)))
      go_wp2_with fail
      refine (clone_f HE (.tail _ (.head _)) (by omega)).mono ?_
      clear HE
      rintro e w4 ⟨sx, Ax, nx, cx, Ay, ny, cy, rfl, HE⟩
      clear q36 q37 q38 q39 q40 q41 q42 q43 q44 q45 q46 q47 q48 q49 q50 q51 q52 q53
      obtain ⟨z0, z1, z2, z3, z4, z5⟩ := HE.c3 (.tail _ (.tail _ (.head _)))
      go_wp2_with fail
      refine bodyPost_ret (v := .agg #[.bool sx, .slice Ax nx cx, .slice Ay ny cy]) (by simp [results, Tryz.results42, go_sem, z0, z1, z2]) rfl ?_
      have HK := (HE.done3 (D := Ax) (m := nx) (d := cx) (.tail _ (.tail _ (.head _))) sx (.slice Ay ny cy)).bare
      rw [HV.out]
      exact ⟨_, _, _, _, _, _, _, rfl, (HK.pick (M' := ⟨_, _, _, _⟩ :: M) (fun _ he => he) (fun _ he => by rcases List.mem_cons.1 he with rfl | he; exact .head _; exact .tail _ (.tail _ (.tail _ he)))).hd (·.weak (by omega))⟩
set_option maxRecDepth 100000 in
set_option maxHeartbeats 4000000 in
theorem fmax_f (HE : FEnv W0 w bs L ts M) (h : ⟨.agg #[.bool s, .slice A n c, .slice A' n' c'], q, k, b⟩ ∈ M) (h' : ⟨.agg #[.bool s', .slice B m d, .slice B' m' d'], r, k', b'⟩ ∈ M) (hk : k + k' ≤ 8000) :
    Calls Tryz.prog 44 #[.agg #[.bool s, .slice A n c, .slice A' n' c'], .agg #[.bool s', .slice B m d, .slice B' m' d']] w (GotQ W0 bs L ts M (maxQ q r) (k + k')) := by
  refine Calls.mono (R := (GotQ w [] L [] M (maxQ q r) (k + k'))) ?_ fun _ _ hh => GotQ.of HE hh
  by_cases hc : 0 < cmpQ r q
  · have HV := Lib.hid (show maxQ q r = r by unfold maxQ; rw [if_pos hc])
    have hcc : decide (0 < cmpQ r q) = true := by rw [decide_eq_true hc]
    clear hc
    replace HE := ((HE.here.box3 (.bool s) (.slice A n c) (.slice A' n' c')).box3 (.bool s') (.slice B m d) (.slice B' m' d')).box3 (.bool false) (.slice none 0 0) (.slice none 0 0)
    simp only [World.size_alloc] at HE
    obtain ⟨q0, q1, q2, q3, q4, q5⟩ := HE.c3 (.head _)
    obtain ⟨q6, q7, q8, q9, q10, q11⟩ := HE.c3 (.tail _ (.head _))
    obtain ⟨q12, q13, q14, q15, q16, q17⟩ := HE.c3 (.tail _ (.tail _ (.head _)))
    go_enter Tryz.func44, Tryz.ntmps44
    go_wp2_with fail
    go_region_with
      (first
        | (go_at_call 70; have _ := HC1; refine (known_f (by with_reducible first | exact HE | exact HE.drew) (.tail _ h') (by omega)).mono ?_; rintro e w2 ⟨sb, Ba, ma, da, Bb, mb, db, rfl, HE⟩; obtain ⟨v0, v1, v2, v3, v4, v5⟩ := HE.c3 (.tail _ (.tail _ (.head _))); obtain ⟨v6, v7, v8, v9, v10, v11⟩ := HE.c3 (.tail _ (.head _)))
        | (go_at_call 70; refine (known_f (by with_reducible first | exact HE | exact HE.drew) h (by omega)).mono ?_; rintro e w1 ⟨sa, Aa, na, ca, Ab, nb, cb, rfl, HE⟩; have HC1 := HE; obtain ⟨u0, u1, u2, u3, u4, u5⟩ := HE.c3 (.tail _ (.tail _ (.head _))); obtain ⟨u6, u7, u8, u9, u10, u11⟩ := HE.c3 (.tail _ (.head _))))
    all_goals
      first | clear q0 q1 q2 q3 q4 q5 q6 q7 q8 q9 q10 q11 q12 q13 q14 q15 q16 q17 u0 u1 u2 u3 u4 u5 u6 u7 u8 u9 u10 u11 v0 v1 v2 v3 v4 v5 v6 v7 v8 v9 v10 v11 HC1 | skip
      replace HE := (HE.put3 (s' := sa) (D := Aa) (m := na) (d := ca) (v := .slice Ab nb cb) (.tail _ (.tail _ (.head _))) [⟨w.heap.size + 1 + 1, .bool false, .slice none 0 0, .slice none 0 0⟩, ⟨w.heap.size + 1, .bool s', .slice B m d, .slice B' m' d'⟩] (fun b hb => by simp only [List.mem_cons, List.not_mem_nil, or_false] at hb; rcases hb with rfl | rfl <;> exact ⟨(by repeat (first | exact .head _ | assumption | refine .tail _ ?_)), by dsimp only; omega⟩)).put3 (s' := sb) (D := Ba) (m := ma) (d := da) (v := .slice Bb mb db) (.tail _ (.tail _ (.head _))) [⟨w.heap.size, .bool sa, .slice Aa na ca, .slice Ab nb cb⟩, ⟨w.heap.size + 1 + 1, .bool false, .slice none 0 0, .slice none 0 0⟩] (fun b hb => by simp only [List.mem_cons, List.not_mem_nil, or_false] at hb; rcases hb with rfl | rfl <;> exact ⟨(by repeat (first | exact .head _ | assumption | refine .tail _ ?_)), by dsimp only; omega⟩)
      generalize (((((((w2.setCell ⟨w.heap.size, 0, none⟩ (.bool sa)).setCell ⟨w.heap.size, 1, none⟩ (.slice Aa na ca)).setCell ⟨w.heap.size, 2, none⟩ (.slice Ab nb cb)).setCell ⟨w.heap.size + 1, 0, none⟩ (.bool sb)).setCell ⟨w.heap.size + 1, 1, none⟩ (.slice Ba ma da)).setCell ⟨w.heap.size + 1, 2, none⟩ (.slice Bb mb db))) = W5 at *
      obtain ⟨q18, q19, q20, q21, q22, q23⟩ := HE.c3 (.head _)
      obtain ⟨q24, q25, q26, q27, q28, q29⟩ := HE.c3 (.tail _ (.head _))
      obtain ⟨q30, q31, q32, q33, q34, q35⟩ := HE.c3 (.tail _ (.tail _ (.head _)))
      go_wp2_with fail
      refine (compare_f HE (.head _) (.tail _ (.head _)) (by omega)).mono ?_
      clear HE
      rintro e w3 ⟨rfl, HE⟩
      clear q18 q19 q20 q21 q22 q23 q24 q25 q26 q27 q28 q29 q30 q31 q32 q33 q34 q35
      obtain ⟨q36, q37, q38, q39, q40, q41⟩ := HE.c3 (.head _)
      obtain ⟨q42, q43, q44, q45, q46, q47⟩ := HE.c3 (.tail _ (.head _))
      obtain ⟨q48, q49, q50, q51, q52, q53⟩ := HE.c3 (.tail _ (.tail _ (.head _)))
      go_wp2_with fail
      refine (clone_f HE (.head _) (by omega)).mono ?_
      clear HE
      rintro e w4 ⟨sx, Ax, nx, cx, Ay, ny, cy, rfl, HE⟩
      clear q36 q37 q38 q39 q40 q41 q42 q43 q44 q45 q46 q47 q48 q49 q50 q51 q52 q53
      obtain ⟨z0, z1, z2, z3, z4, z5⟩ := HE.c3 (.tail _ (.tail _ (.head _)))
      go_wp2_with fail
      refine bodyPost_ret (v := .agg #[.bool sx, .slice Ax nx cx, .slice Ay ny cy]) (by simp [results, Tryz.results44, go_sem, z0, z1, z2]) rfl ?_
      have HK := (HE.done3 (D := Ax) (m := nx) (d := cx) (.tail _ (.tail _ (.head _))) sx (.slice Ay ny cy)).bare
      rw [HV.out]
      exact ⟨_, _, _, _, _, _, _, rfl, (HK.pick (M' := ⟨_, _, _, _⟩ :: M) (fun _ he => he) (fun _ he => by rcases List.mem_cons.1 he with rfl | he; exact .head _; exact .tail _ (.tail _ (.tail _ he)))).hd (·.weak (by omega))⟩
  · have HV := Lib.hid (show maxQ q r = q by unfold maxQ; rw [if_neg hc])
    have hcc : decide (0 < cmpQ r q) = false := by rw [decide_eq_false hc]
    clear hc
    replace HE := ((HE.here.box3 (.bool s) (.slice A n c) (.slice A' n' c')).box3 (.bool s') (.slice B m d) (.slice B' m' d')).box3 (.bool false) (.slice none 0 0) (.slice none 0 0)
    simp only [World.size_alloc] at HE
    obtain ⟨q0, q1, q2, q3, q4, q5⟩ := HE.c3 (.head _)
    obtain ⟨q6, q7, q8, q9, q10, q11⟩ := HE.c3 (.tail _ (.head _))
    obtain ⟨q12, q13, q14, q15, q16, q17⟩ := HE.c3 (.tail _ (.tail _ (.head _)))
    go_enter Tryz.func44, Tryz.ntmps44
    go_wp2_with fail
    go_region_with
      (first
        | (go_at_call 70; have _ := HC1; refine (known_f (by with_reducible first | exact HE | exact HE.drew) (.tail _ h') (by omega)).mono ?_; rintro e w2 ⟨sb, Ba, ma, da, Bb, mb, db, rfl, HE⟩; obtain ⟨v0, v1, v2, v3, v4, v5⟩ := HE.c3 (.tail _ (.tail _ (.head _))); obtain ⟨v6, v7, v8, v9, v10, v11⟩ := HE.c3 (.tail _ (.head _)))
        | (go_at_call 70; refine (known_f (by with_reducible first | exact HE | exact HE.drew) h (by omega)).mono ?_; rintro e w1 ⟨sa, Aa, na, ca, Ab, nb, cb, rfl, HE⟩; have HC1 := HE; obtain ⟨u0, u1, u2, u3, u4, u5⟩ := HE.c3 (.tail _ (.tail _ (.head _))); obtain ⟨u6, u7, u8, u9, u10, u11⟩ := HE.c3 (.tail _ (.head _))))
    all_goals
      first | clear q0 q1 q2 q3 q4 q5 q6 q7 q8 q9 q10 q11 q12 q13 q14 q15 q16 q17 u0 u1 u2 u3 u4 u5 u6 u7 u8 u9 u10 u11 v0 v1 v2 v3 v4 v5 v6 v7 v8 v9 v10 v11 HC1 | skip
      replace HE := (HE.put3 (s' := sa) (D := Aa) (m := na) (d := ca) (v := .slice Ab nb cb) (.tail _ (.tail _ (.head _))) [⟨w.heap.size + 1 + 1, .bool false, .slice none 0 0, .slice none 0 0⟩, ⟨w.heap.size + 1, .bool s', .slice B m d, .slice B' m' d'⟩] (fun b hb => by simp only [List.mem_cons, List.not_mem_nil, or_false] at hb; rcases hb with rfl | rfl <;> exact ⟨(by repeat (first | exact .head _ | assumption | refine .tail _ ?_)), by dsimp only; omega⟩)).put3 (s' := sb) (D := Ba) (m := ma) (d := da) (v := .slice Bb mb db) (.tail _ (.tail _ (.head _))) [⟨w.heap.size, .bool sa, .slice Aa na ca, .slice Ab nb cb⟩, ⟨w.heap.size + 1 + 1, .bool false, .slice none 0 0, .slice none 0 0⟩] (fun b hb => by simp only [List.mem_cons, List.not_mem_nil, or_false] at hb; rcases hb with rfl | rfl <;> exact ⟨(by repeat (first | exact .head _ | assumption | refine .tail _ ?_)), by dsimp only; omega⟩)
      generalize (((((((w2.setCell ⟨w.heap.size, 0, none⟩ (.bool sa)).setCell ⟨w.heap.size, 1, none⟩ (.slice Aa na ca)).setCell ⟨w.heap.size, 2, none⟩ (.slice Ab nb cb)).setCell ⟨w.heap.size + 1, 0, none⟩ (.bool sb)).setCell ⟨w.heap.size + 1, 1, none⟩ (.slice Ba ma da)).setCell ⟨w.heap.size + 1, 2, none⟩ (.slice Bb mb db))) = W5 at *
      obtain ⟨q18, q19, q20, q21, q22, q23⟩ := HE.c3 (.head _)
      obtain ⟨q24, q25, q26, q27, q28, q29⟩ := HE.c3 (.tail _ (.head _))
      obtain ⟨q30, q31, q32, q33, q34, q35⟩ := HE.c3 (.tail _ (.tail _ (.head _)))
      go_wp2_with fail
      refine (compare_f HE (.head _) (.tail _ (.head _)) (by omega)).mono ?_
      clear HE
      rintro e w3 ⟨rfl, HE⟩
      clear q18 q19 q20 q21 q22 q23 q24 q25 q26 q27 q28 q29 q30 q31 q32 q33 q34 q35
      obtain ⟨q36, q37, q38, q39, q40, q41⟩ := HE.c3 (.head _)
      obtain ⟨q42, q43, q44, q45, q46, q47⟩ := HE.c3 (.tail _ (.head _))
      obtain ⟨q48, q49, q50, q51, q52, q53⟩ := HE.c3 (.tail _ (.tail _ (.head _)))
      go_wp2_with fail
      refine (clone_f HE (.tail _ (.head _)) (by omega)).mono ?_
      clear HE
      rintro e w4 ⟨sx, Ax, nx, cx, Ay, ny, cy, rfl, HE⟩
      clear q36 q37 q38 q39 q40 q41 q42 q43 q44 q45 q46 q47 q48 q49 q50 q51 q52 q53
      obtain ⟨z0, z1, z2, z3, z4, z5⟩ := HE.c3 (.tail _ (.tail _ (.head _)))
      go_wp2_with fail
      refine bodyPost_ret (v := .agg #[.bool sx, .slice Ax nx cx, .slice Ay ny cy]) (by simp [results, Tryz.results44, go_sem, z0, z1, z2]) rfl ?_
      have HK := (HE.done3 (D := Ax) (m := nx) (d := cx) (.tail _ (.tail _ (.head _))) sx (.slice Ay ny cy)).bare
      rw [HV.out]
      exact ⟨_, _, _, _, _, _, _, rfl, (HK.pick (M' := ⟨_, _, _, _⟩ :: M) (fun _ he => he) (fun _ he => by rcases List.mem_cons.1 he with rfl | he; exact .head _; exact .tail _ (.tail _ (.tail _ he)))).hd (·.weak (by omega))⟩
end
end Go.Proofs.YtdecmhcojdnokaaGreatDoor
