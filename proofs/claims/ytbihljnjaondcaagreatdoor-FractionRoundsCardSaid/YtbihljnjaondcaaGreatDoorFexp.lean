/- Walks of fraction: the exported sums, products, comparisons. -/
import Derived.Test.YtbihljnjaondcaaGreatDoorFtimes
namespace Go.Proofs.YtbihljnjaondcaaGreatDoor
open Go Go.RowKit Lw
section
variable {W0 w : World} {bs : List Bx} {L : List En} {ts : List Bt} {M : List Qn} {s s' : Bool} {A A' B B' : Option Addr} {n c n' c' m d m' d' k k' : Nat} {q r : Rat} {x y : Int} {b b' : Bool}
set_option maxRecDepth 100000 in
set_option maxHeartbeats 2400000 in
theorem fmul_f (HE : FEnv W0 w bs L ts M) (h : ⟨.agg #[.bool s, .slice A n c, .slice A' n' c'], q, k, b⟩ ∈ M) (h' : ⟨.agg #[.bool s', .slice B m d, .slice B' m' d'], r, k', b'⟩ ∈ M) (hk : k + k' ≤ 8000) :
    Calls Tryz.prog 74 #[.agg #[.bool s, .slice A n c, .slice A' n' c'], .agg #[.bool s', .slice B m d, .slice B' m' d']] w (GotQ W0 bs L ts M (q * r) (k + k' + 2)) := by
  refine Calls.mono (R := (GotQ w [] L [] M (q * r) (k + k' + 2))) ?_ fun _ _ hh => GotQ.of HE hh
  replace HE := (HE.here.box3 (.bool s) (.slice A n c) (.slice A' n' c')).box3 (.bool s') (.slice B m d) (.slice B' m' d')
  replace HE := HE.box3 (.bool false) (.slice none 0 0) (.slice none 0 0)
  simp only [World.size_alloc] at HE
  obtain ⟨q0, q1, q2, q3, q4, q5⟩ := HE.c3 (.head _)
  obtain ⟨q6, q7, q8, q9, q10, q11⟩ := HE.c3 (.tail _ (.head _))
  obtain ⟨q12, q13, q14, q15, q16, q17⟩ := HE.c3 (.tail _ (.tail _ (.head _)))
  have TA := HE.tri3 (.tail _ (.tail _ (.head _)))
  have TB := HE.tri3 (.tail _ (.head _))
  go_enter Tryz.func74, Tryz.ntmps74
  go_wp2_with fail
  go_region_held3 (fun w' => w'.cell? ⟨w.heap.size, 0, none⟩ = some (.bool s) ∧ w'.cell? ⟨w.heap.size, 1, none⟩ = some (.slice A n c) ∧ w'.cell? ⟨w.heap.size, 2, none⟩ = some (.slice A' n' c') ∧ w'.cell? ⟨w.heap.size + 1, 0, none⟩ = some (.bool s') ∧ w'.cell? ⟨w.heap.size + 1, 1, none⟩ = some (.slice B m d) ∧ w'.cell? ⟨w.heap.size + 1, 2, none⟩ = some (.slice B' m' d')) (with_reducible first | exact Tri.cc TA TB | exact Tri.cc TA.drew TB.drew | exact Tri.cc UA UB)
    (first
      | (go_at_call 83; refine (known_f (by with_reducible first | exact HE | exact HE.drew) (by repeat (first | exact .head _ | assumption | refine .tail _ ?_)) (by omega)).mono ?_; rintro e wn ⟨sx, Ax, nx, cx, Ay, ny, cy, rfl, HE⟩; have TA := HE.tri3 (.tail _ (.tail _ (.head _))); have TB := HE.tri3 (.tail _ (.head _)))
      | (go_at_call 148; refine (times_f (by with_reducible first | exact HE | exact HE.drew) (by repeat (first | exact .head _ | assumption | refine .tail _ ?_)) (by repeat (first | exact .head _ | assumption | refine .tail _ ?_)) (by omega)).mono ?_; rintro e wn ⟨sx, Ax, nx, cx, Ay, ny, cy, rfl, HE⟩; have TA := HE.tri3 (.tail _ (.tail _ (.head _))); have TB := HE.tri3 (.tail _ (.head _)); have UA := TA.far3 (g' := w.heap.size + 1 + 1) (by omega) (.bool sx) (.slice Ax nx cx) (.slice Ay ny cy); have UB := TB.far3 (g' := w.heap.size + 1 + 1) (by omega) (.bool sx) (.slice Ax nx cx) (.slice Ay ny cy); obtain ⟨z0, z1, z2, z3, z4, z5⟩ := HE.c3 (.head _)))
  go_wp2_with fail
  refine bodyPost_ret (v := .agg #[.bool sx, .slice Ax nx cx, .slice Ay ny cy]) (by simp [results, Tryz.results74, go_sem, z0, z1, z2]) rfl ?_
  have HK := (HE.done3 (D := Ax) (m := nx) (d := cx) (.head _) sx (.slice Ay ny cy)).bare
  skip
  exact ⟨_, _, _, _, _, _, _, rfl, HK.pick (fun _ he => he) (fun _ he => by rcases List.mem_cons.1 he with rfl | he; exact .head _; exact .tail _ (.tail _ (.tail _ (he))))⟩
theorem ratio_g (HE : FEnv W0 w bs L ts M) (n1 : -9223372036854775808 ≤ x) (n2 : x ≤ 9223372036854775807) (d1 : -9223372036854775808 ≤ y) (d2 : y ≤ 9223372036854775807) (d0 : y ≠ 0) :
    Calls Tryz.prog 150 #[.int .i64 x, .int .i64 y] w (GotQ W0 bs L ts M (Rat.divInt x y) 2) := by
  refine (ratio_any x y w n1 n2 d1 d2 d0 (HE.tz.next HE.below)).mono fun e w' hh => ?_
  obtain ⟨A, c, A', c', rfl, hc, hc', hr, hr', hb⟩ := hh
  have hp : pw 2 = 18446744073709551616 := rfl
  have h1 : (Rat.divInt x y).num.natAbs ≤ x.natAbs := by
    rw [Rat.num_divInt]
    refine Nat.le_trans (Int.natAbs_ediv_le_natAbs _ _) ?_
    rw [Int.natAbs_mul, Int.natAbs_sign_of_ne_zero d0, Nat.one_mul]
    exact Nat.le_refl _
  have h2 : (Rat.divInt x y).den ≤ y.natAbs := by rw [Rat.den_divInt, if_neg d0]; exact Nat.div_le_self _ _
  exact ⟨_, _, _, _, _, _, _, rfl, (HE.next hb).cons (own_fop hr hr' (len_z (by omega)) (len_rd (by omega)) hc hc')⟩
set_option maxRecDepth 100000 in
set_option maxHeartbeats 1600000 in
theorem fof_f (HE : FEnv W0 w bs L ts M) (n1 : -9223372036854775808 ≤ x) (n2 : x ≤ 9223372036854775807) :
    Calls Tryz.prog 81 #[.int .i64 x] w (GotQ W0 bs L ts M (x : Rat) 2) := by
  refine Calls.mono (R := GotQ w [] L [] M (x : Rat) 2) ?_ fun _ _ hh => GotQ.of HE hh
  replace HE := HE.here.box3 (.bool false) (.slice none 0 0) (.slice none 0 0)
  have HX := Lib.hid (show Rat.divInt x 1 = (x : Rat) from Rat.ext (by rw [Rat.num_divInt]; simp) (by rw [Rat.den_divInt]; simp))
  have HN := Lib.hid (show -9223372036854775808 ≤ x ∧ x ≤ 9223372036854775807 from ⟨n1, n2⟩)
  clear n1 n2
  obtain ⟨q0, q1, q2, q3, q4, q5⟩ := HE.c3 (.head _)
  go_enter Tryz.func81, Tryz.ntmps81
  go_wp2_with fail
  refine (ratio_g HE HN.out.1 HN.out.2 (by omega) (by omega) (by omega)).mono ?_
  rw [HX.out]
  rintro e w1 ⟨sx, Ax, nx, cx, Ay, ny, cy, rfl, HE⟩
  clear q0 q1 q2 q3 q4 q5
  obtain ⟨q0, q1, q2, q3, q4, q5⟩ := HE.c3 (.head _)
  go_wp2_with fail
  refine bodyPost_ret (v := .agg #[.bool sx, .slice Ax nx cx, .slice Ay ny cy]) (by simp [results, Tryz.results81, go_sem, q0, q1, q2]) rfl ?_
  exact ⟨_, _, _, _, _, _, _, rfl, (HE.done3 (D := Ax) (m := nx) (d := cx) (.head _) sx (.slice Ay ny cy)).bare⟩
end
end Go.Proofs.YtbihljnjaondcaaGreatDoor
