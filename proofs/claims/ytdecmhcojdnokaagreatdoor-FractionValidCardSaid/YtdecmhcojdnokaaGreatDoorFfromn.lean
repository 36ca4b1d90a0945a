/- The reference of fractions: From at a denominator below 0 (of the program). -/
import Derived.Test.YtdecmhcojdnokaaGreatDoorFrefo
import Derived.Test.YtdecmhcojdnokaaGreatDoorFrts
namespace Go.Proofs.YtdecmhcojdnokaaGreatDoor
open Go Go.RowKit Lw
section
variable {W0 w : World} {bs : List Bx} {L : List En} {ts : List Bt} {M : List Qn} {s s' : Bool} {A A' B B' : Option Addr} {n c n' c' m d m' d' k k' : Nat} {q r : Rat} {x y : Int} {b b' : Bool}
set_option maxRecDepth 100000 in
set_option maxHeartbeats 3200000 in
theorem fromneg_f (HE : FEnv W0 w bs L ts M) (h : ⟨.agg #[.bool s, .slice A n c], x, k, b⟩ ∈ L) (h' : ⟨.agg #[.bool s', .slice A' n' c'], y, k', b'⟩ ∈ L) (hk : k + k' ≤ 40000) (hy : y < 0) :
    Calls Tryz.prog 14 #[.agg #[.bool s, .slice A n c], .agg #[.bool s', .slice A' n' c']] w (GotE W0 bs L ts M (Rat.divInt x y) (k + 1 + (k' + 1))) := by
  refine Calls.mono (R := (GotE w [] L [] M (Rat.divInt x y) (k + 1 + (k' + 1)))) ?_ fun _ _ hh => GotE.of HE hh
  replace HE := ((HE.here.box2 (.bool s) (.slice A n c)).box2 (.bool s') (.slice A' n' c')).box3 (.bool false) (.slice none 0 0) (.slice none 0 0)
  simp only [World.size_alloc] at HE
  have HS := Lib.hid (show signI y = -1 by unfold signI; rw [if_pos (by omega)])
  have HN := Lib.hid (divInt_neg2 x y)
  have HY := Lib.hid (show 0 < -y by omega)
  clear hy
  rw [← HN.out]
  obtain ⟨q0, q1, q2, q3⟩ := HE.c2 (.head _)
  obtain ⟨q4, q5, q6, q7⟩ := HE.c2 (.tail _ (.head _))
  obtain ⟨q8, q9, q10, q11, q12, q13⟩ := HE.c3 (.head _)
  go_enter Tryz.func14, Tryz.ntmps14
  go_wp2_with fail
  refine (isign_f HE h' (by omega)).mono ?_
  rw [HS.out]
  clear HE
  rintro e w2 ⟨rfl, HE⟩
  clear q0 q1 q2 q3 q4 q5 q6 q7 q8 q9 q10 q11 q12 q13
  obtain ⟨q14, q15, q16, q17⟩ := HE.c2 (.head _)
  obtain ⟨q18, q19, q20, q21⟩ := HE.c2 (.tail _ (.head _))
  go_wp2_with fail
  go_region_with
    (first
      | (go_at_call 66; have _ := HC1; refine (ineg_f (by with_reducible first | exact HE | exact HE.drew) (.tail _ h') (by omega)).mono ?_; rintro e wb ⟨sb, Ab, nb, cb, rfl, HE⟩; obtain ⟨v0, v1, v2, v3⟩ := HE.c2 (.tail _ (.head _)); obtain ⟨v4, v5, v6, v7⟩ := HE.c2 (.head _))
      | (go_at_call 66; refine (ineg_f (by with_reducible first | exact HE | exact HE.drew) h (by omega)).mono ?_; rintro e wa ⟨sa, Aa, na, ca, rfl, HE⟩; have HC1 := HE; obtain ⟨u0, u1, u2, u3⟩ := HE.c2 (.tail _ (.head _)); obtain ⟨u4, u5, u6, u7⟩ := HE.c2 (.head _)))
  all_goals
    first | clear q14 q15 q16 q17 q18 q19 q20 q21 u0 u1 u2 u3 u4 u5 u6 u7 v0 v1 v2 v3 v4 v5 v6 v7 HC1 | skip
    replace HE := (HE.put2 (.tail _ (.head _)) [⟨w.heap.size + 1, .bool s', .slice A' n' c'⟩] (fun b hb => by simp only [List.mem_cons, List.not_mem_nil, or_false] at hb; subst hb; exact ⟨(by repeat (first | exact .head _ | refine .tail _ ?_)), by dsimp only; omega⟩) sa (.slice Aa na ca)).put2 (.tail _ (.head _)) [⟨w.heap.size, .bool sa, .slice Aa na ca⟩] (fun b hb => by simp only [List.mem_cons, List.not_mem_nil, or_false] at hb; subst hb; exact ⟨(by repeat (first | exact .head _ | refine .tail _ ?_)), by dsimp only; omega⟩) sb (.slice Ab nb cb)
    generalize ((((wb.setCell ⟨w.heap.size, 0, none⟩ (.bool sa)).setCell ⟨w.heap.size, 1, none⟩ (.slice Aa na ca)).setCell ⟨w.heap.size + 1, 0, none⟩ (.bool sb)).setCell ⟨w.heap.size + 1, 1, none⟩ (.slice Ab nb cb)) = W5 at *
    obtain ⟨q22, q23, q24, q25⟩ := HE.c2 (.head _)
    obtain ⟨q26, q27, q28, q29⟩ := HE.c2 (.tail _ (.head _))
    obtain ⟨q30, q31, q32, q33, q34, q35⟩ := HE.c3 (.head _)
    go_wp2_with fail
    refine (reduce_f HE (by repeat (first | exact .head _ | assumption | refine .tail _ ?_)) (by repeat (first | exact .head _ | assumption | refine .tail _ ?_)) (by omega) HY.out).mono ?_
    clear HE
    rintro e w6 ⟨sx, Ax, nx, cx, Ay, ny, cy, rfl, HE⟩
    clear q22 q23 q24 q25 q26 q27 q28 q29 q30 q31 q32 q33 q34 q35
    obtain ⟨q36, q37, q38, q39, q40, q41⟩ := HE.c3 (.head _)
    have TF := (HE.tri3 (.head _)).put (.bool sx) (.slice Ax nx cx) (.slice Ay ny cy)
    go_wp2_with fail
    obtain ⟨z0, z1, z2, -, -, -⟩ := TF.cells
    refine bodyPost_ret (v := .tuple #[.agg #[.bool sx, .slice Ax nx cx, .slice Ay ny cy], .nilIface]) (by simp [results, Tryz.results14, go_sem, z0, z1, z2]) rfl ?_
    have HK := (HE.done3 (D := Ax) (m := nx) (d := cx) (.head _) sx (.slice Ay ny cy)).bare
    exact ⟨_, _, _, _, _, _, _, rfl, HK.pick (fun e he => .tail _ (.tail _ he)) (fun _ he => he)⟩
set_option maxRecDepth 100000 in
set_option maxHeartbeats 1600000 in
theorem rfof_f (HE : FEnv W0 w bs L ts M) (n1 : -9223372036854775808 ≤ x) (n2 : x ≤ 9223372036854775807) :
    Calls Tryz.prog 23 #[.int .i64 x] w (GotQ W0 bs L ts M (x : Rat) 6) := by
  refine Calls.mono (R := (GotQ w [] L [] M (x : Rat) 6)) ?_ fun _ _ hh => GotQ.of HE hh
  replace HE := HE.here.box3 (.bool false) (.slice none 0 0) (.slice none 0 0)
  have HX := Lib.hid (show Rat.divInt x 1 = (x : Rat) from Rat.ext (by rw [Rat.num_divInt]; simp) (by rw [Rat.den_divInt]; simp))
  have HN := Lib.hid (show -9223372036854775808 ≤ x ∧ x ≤ 9223372036854775807 from ⟨n1, n2⟩)
  clear n1 n2
  obtain ⟨q0, q1, q2, q3, q4, q5⟩ := HE.c3 (.head _)
  go_enter Tryz.func23, Tryz.ntmps23
  go_wp2_with fail
  refine (rof_f HE HN.out.1 HN.out.2).mono ?_
  clear HE
  rintro e w1 ⟨s1, A1, n1, c1, rfl, HE⟩
  clear q0 q1 q2 q3 q4 q5
  go_wp2_with fail
  refine (one_f HE).mono ?_
  clear HE
  rintro e w2 ⟨s2, A2, n2, c2, rfl, HE⟩
  go_wp2_with fail
  refine (form_f HE (.tail _ (.head _)) (.head _) (by omega) (by omega)).mono ?_
  rw [HX.out]
  clear HE
  rintro e w3 ⟨sx, Ax, nx, cx, Ay, ny, cy, rfl, HE⟩
  obtain ⟨q6, q7, q8, q9, q10, q11⟩ := HE.c3 (.head _)
  go_wp2_with fail
  refine bodyPost_ret (v := .agg #[.bool sx, .slice Ax nx cx, .slice Ay ny cy]) (by simp [results, Tryz.results23, go_sem, q6, q7, q8]) rfl ?_
  have HK := (HE.done3 (D := Ax) (m := nx) (d := cx) (.head _) sx (.slice Ay ny cy)).bare
  exact ⟨_, _, _, _, _, _, _, rfl, HK.pick (fun e he => .tail _ (.tail _ he)) (fun _ he => he)⟩
end
end Go.Proofs.YtdecmhcojdnokaaGreatDoor
