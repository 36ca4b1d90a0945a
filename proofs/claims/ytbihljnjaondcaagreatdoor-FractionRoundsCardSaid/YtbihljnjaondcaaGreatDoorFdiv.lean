/- Walks of fraction: Make, Div, Floor, From, Parts. -/
import Derived.Test.YtbihljnjaondcaaGreatDoorFexp
import Derived.Deep.RegionWith
namespace Go.Proofs.YtbihljnjaondcaaGreatDoor
open Go Go.RowKit Lw
section
variable {W0 w : World} {bs : List Bx} {L : List En} {ts : List Bt} {M : List Qn} {s s' : Bool} {A A' B B' : Option Addr} {n c n' c' m d m' d' k k' : Nat} {q r : Rat} {x y : Int} {b b' : Bool}
/-- A fraction and no error handed back. -/
def GotE (W0 : World) (bs : List Bx) (L : List En) (ts : List Bt) (M : List Qn) (q : Rat) (k : Nat) (e : Ending) (w' : World) : Prop :=
  ∃ (s : Bool) (A : Option Addr) (n c : Nat) (A' : Option Addr) (n' c' : Nat), e = .returned (.tuple #[.agg #[.bool s, .slice A n c, .slice A' n' c'], .nilIface]) ∧ FEnv W0 w' bs L ts (⟨.agg #[.bool s, .slice A n c, .slice A' n' c'], q, k, true⟩ :: M)
theorem GotE.of {w' : World} {e : Ending} (h : FEnv W0 w bs L ts M) (hh : GotE w [] L [] M q k e w') : GotE W0 bs L ts M q k e w' := by
  obtain ⟨s, A, n, c, A', n', c', rfl, he⟩ := hh
  exact ⟨s, A, n, c, A', n', c', rfl, h.back he⟩
/-- A zero and an error handed back. -/
def errV (z : Int) : Value := .tuple #[.agg #[.bool false, .slice none 0 0, .slice none 0 0], .iface 74 (.int .i64 z)]
end
end Go.Proofs.YtbihljnjaondcaaGreatDoor
/-! Walks of fraction: Make, Floor, squareRoot, Root. -/
namespace Lw
open Go Go.RowKit
theorem cmpI_eq (x : Int) : cmpI x x = 0 := by unfold cmpI; simp
theorem cmpI_ne {x y : Int} (h : x ≠ y) : (cmpI x y != 0) = true := by
  rw [bne_iff_ne]; unfold cmpI; split <;> first | omega | (split <;> omega)
end Lw
namespace Go.Proofs.YtbihljnjaondcaaGreatDoor
open Go Go.RowKit Lw
section
variable {W0 w : World} {bs : List Bx} {L : List En} {ts : List Bt} {M : List Qn} {s s' : Bool} {A A' B B' : Option Addr} {n c n' c' m d m' d' k k' : Nat} {q r : Rat} {x y : Int} {b b' : Bool}
set_option maxRecDepth 100000 in
set_option maxHeartbeats 1600000 in
theorem fmake_f (HE : FEnv W0 w bs L ts M) (n1 : -9223372036854775808 ≤ x) (n2 : x ≤ 9223372036854775807) (d1 : -9223372036854775808 ≤ y) (d2 : y ≤ 9223372036854775807) (hy : y ≠ 0) :
    Calls Tryz.prog 80 #[.int .i64 x, .int .i64 y] w (GotE W0 bs L ts M (Rat.divInt x y) 2) := by
  refine Calls.mono (R := GotE w [] L [] M (Rat.divInt x y) 2) ?_ fun _ _ hh => GotE.of HE hh
  replace HE := HE.here.box3 (.bool false) (.slice none 0 0) (.slice none 0 0)
  have hy0 : (y == 0) = false := by rw [beq_eq_false_iff_ne]; exact hy
  have HC := Lib.hid (ratio_g HE n1 n2 d1 d2 hy)
  clear n1 n2 d1 d2 hy
  generalize Rat.divInt x y = q at *
  obtain ⟨q0, q1, q2, q3, q4, q5⟩ := HE.c3 (.head _)
  go_enter Tryz.func80, Tryz.ntmps80
  go_wp2_with fail
  refine HC.out.mono ?_
  clear HE HC
  rintro e w1 ⟨sx, Ax, nx, cx, Ay, ny, cy, rfl, HE⟩
  clear q0 q1 q2 q3 q4 q5
  obtain ⟨q0, q1, q2, q3, q4, q5⟩ := HE.c3 (.head _)
  go_wp2_with fail
  refine bodyPost_ret (v := .tuple #[.agg #[.bool sx, .slice Ax nx cx, .slice Ay ny cy], .nilIface]) (by simp [results, Tryz.results80, go_sem, q0, q1, q2]) rfl ?_
  exact ⟨_, _, _, _, _, _, _, rfl, (HE.done3 (D := Ax) (m := nx) (d := cx) (.head _) sx (.slice Ay ny cy)).bare⟩
set_option maxRecDepth 100000 in
set_option maxHeartbeats 1600000 in
theorem ffloor_f (HE : FEnv W0 w bs L ts M) (h : ⟨.agg #[.bool s, .slice A n c, .slice A' n' c'], q, k, b⟩ ∈ M) (hk : k ≤ 40000) :
    Calls Tryz.prog 23 #[.agg #[.bool s, .slice A n c, .slice A' n' c']] w (GotI W0 bs L ts M q.floor (k + 2 + 1)) := by
  refine Calls.mono (R := GotI w [] L [] M q.floor (k + 2 + 1)) ?_ fun _ _ hh => GotI.of HE hh
  replace HE := (HE.here.box3 (.bool s) (.slice A n c) (.slice A' n' c')).box2 (.bool false) (.slice none 0 0)
  simp only [World.size_alloc] at HE
  obtain ⟨q0, q1, q2, q3, q4, q5⟩ := HE.c3 (.head _)
  go_enter Tryz.func23, Tryz.ntmps23
  go_wp2_with fail
  refine (known_f HE h (by omega)).mono ?_
  clear HE
  rintro e w1 ⟨sx, Ax, nx, cx, Ay, ny, cy, rfl, HE⟩
  go_wp2_with fail
  refine (pair_f HE (.head _)).mono ?_
  clear HE
  rintro e w2 ⟨s1, D1, m1, d1, s2, D2, m2, d2, rfl, HE⟩
  go_wp2_with fail
  refine (floor_f HE (.head _) (.tail _ (.head _)) (by omega) (den_ne q)).mono ?_
  rw [floor_eq]
  clear HE
  rintro e w3 ⟨s3, D3, m3, d3, rfl, HE⟩
  clear q0 q1 q2 q3 q4 q5
  obtain ⟨z0, z1, z2, z3⟩ := HE.c2 (.head _)
  go_wp2_with fail
  refine bodyPost_ret (v := .agg #[.bool s3, .slice D3 m3 d3]) (by simp [results, Tryz.results23, go_sem, z0, z1]) rfl ?_
  exact ⟨_, _, _, _, rfl, (HE.done2 (.head _) s3 (.slice D3 m3 d3)).pick (fun _ he => by rcases List.mem_cons.1 he with rfl | he; exact .head _; exact .tail _ (.tail _ (.tail _ he))) (fun _ he => .tail _ he)⟩
set_option maxRecDepth 100000 in
set_option maxHeartbeats 2400000 in
theorem sqrt_yes (HE : FEnv W0 w bs L ts M) (h : ⟨.agg #[.bool s, .slice A n c], x, k, true⟩ ∈ L) (hk : k ≤ 30000) (hx : 0 ≤ x) (hsq : ((rt x.natAbs : Nat) : Int) * ((rt x.natAbs : Nat) : Int) = x) :
    Calls Tryz.prog 92 #[.agg #[.bool s, .slice A n c]] w (fun e w' => ∃ (s : Bool) (D : Option Addr) (m d : Nat), e = .returned (.tuple #[.agg #[.bool s, .slice D m d], .bool true]) ∧ FEnv W0 w' bs (⟨.agg #[.bool s, .slice D m d], ((rt x.natAbs : Nat) : Int), k, true⟩ :: L) ts M) := by
  refine Calls.mono (R := fun e w' => ∃ (s : Bool) (D : Option Addr) (m d : Nat), e = .returned (.tuple #[.agg #[.bool s, .slice D m d], .bool true]) ∧ FEnv w w' [] (⟨.agg #[.bool s, .slice D m d], ((rt x.natAbs : Nat) : Int), k, true⟩ :: L) [] M) ?_ fun _ _ ⟨s, D, m, d, e1, he⟩ => ⟨s, D, m, d, e1, HE.back he⟩
  replace HE := (HE.here.box2 (.bool s) (.slice A n c)).box2 (.bool false) (.slice none 0 0)
  simp only [World.size_alloc] at HE
  obtain ⟨R, hR⟩ : ∃ R : Int, R = ((rt x.natAbs : Nat) : Int) := ⟨_, rfl⟩
  have HR := Lib.hid hR
  rw [← hR] at hsq ⊢
  have HS := Lib.hid (show cmpI (R * R) x = 0 by rw [hsq]; exact cmpI_eq x)
  have HX := Lib.hid hx
  clear hx hsq hR
  obtain ⟨q0, q1, q2, q3⟩ := HE.c2 (.tail _ (.head _))
  go_enter Tryz.func92, Tryz.ntmps92
  go_wp2_with fail
  refine (iroot_f HE h (by omega) HX.out).mono ?_
  rw [← HR.out]
  clear HE
  rintro e w1 ⟨s1, D1, m1, d1, rfl, HE⟩
  replace HE := HE.box2 (.bool s1) (.slice D1 m1 d1)
  clear q0 q1 q2 q3
  obtain ⟨q0, q1, q2, q3⟩ := HE.c2 (.head _)
  obtain ⟨q4, q5, q6, q7⟩ := HE.c2 (.tail _ (.tail _ (.head _)))
  obtain ⟨q8, q9, q10, q11⟩ := HE.c2 (.tail _ (.head _))
  go_wp2_with fail
  go_region_held3 (fun w' => w'.cell? ⟨w.heap.size, 0, none⟩ = some (.bool s) ∧ w'.cell? ⟨w.heap.size, 1, none⟩ = some (.slice A n c) ∧ w'.cell? ⟨w.heap.size + 1, 0, none⟩ = some (.bool false) ∧ w'.cell? ⟨w.heap.size + 1, 1, none⟩ = some (.slice none 0 0) ∧ w'.cell? ⟨w1.heap.size, 0, none⟩ = some (.bool s1) ∧ w'.cell? ⟨w1.heap.size, 1, none⟩ = some (.slice D1 m1 d1)) (with_reducible first | exact FEnv.r3 HE | exact FEnv.r3 HE.drew)
    (first
      | (go_at_call 91; refine (imul_f (by with_reducible first | exact HE | exact HE.drew) (by repeat (first | exact .head _ | assumption | refine .tail _ ?_)) (by repeat (first | exact .head _ | assumption | refine .tail _ ?_)) (by omega)).mono ?_; rintro e wn ⟨sx, Ax, nx, cx, rfl, HE⟩)
      | (go_at_call 112; refine (icmp_f (by with_reducible first | exact HE | exact HE.drew) (by repeat (first | exact .head _ | assumption | refine .tail _ ?_)) (by repeat (first | exact .head _ | assumption | refine .tail _ ?_)) (by omega)).mono ?_; rw [HS.out]; rintro e wn ⟨rfl, HE⟩; obtain ⟨z0, z1, z2, z3⟩ := HE.c2 (.head _); obtain ⟨z4, z5, z6, z7⟩ := HE.c2 (.tail _ (.head _))))
  go_wp2_with fail
  refine bodyPost_ret (v := .tuple #[.agg #[.bool s1, .slice D1 m1 d1], .bool true]) (by simp [results, Tryz.results92, go_sem, z4, z5]) rfl ?_
  exact ⟨_, _, _, _, rfl, (HE.done2 (.tail _ (.head _)) s1 (.slice D1 m1 d1)).pick (fun _ he => .tail _ he) (fun _ he => he)⟩
set_option maxRecDepth 100000 in
set_option maxHeartbeats 2400000 in
theorem sqrt_no (HE : FEnv W0 w bs L ts M) (h : ⟨.agg #[.bool s, .slice A n c], x, k, true⟩ ∈ L) (hk : k ≤ 30000) (hx : 0 ≤ x) (hsq : ((rt x.natAbs : Nat) : Int) * ((rt x.natAbs : Nat) : Int) ≠ x) :
    Calls Tryz.prog 92 #[.agg #[.bool s, .slice A n c]] w (fun e w' => e = .returned (.tuple #[.agg #[.bool false, .slice none 0 0], .bool false]) ∧ FEnv W0 w' bs L ts M) := by
  refine Calls.mono (R := fun e w' => e = .returned (.tuple #[.agg #[.bool false, .slice none 0 0], .bool false]) ∧ FEnv w w' [] L [] M) ?_ fun _ _ hh => ⟨hh.1, HE.back hh.2⟩
  replace HE := (HE.here.box2 (.bool s) (.slice A n c)).box2 (.bool false) (.slice none 0 0)
  simp only [World.size_alloc] at HE
  obtain ⟨R, hR⟩ : ∃ R : Int, R = ((rt x.natAbs : Nat) : Int) := ⟨_, rfl⟩
  have HR := Lib.hid hR
  rw [← hR] at hsq
  obtain ⟨z, hz⟩ : ∃ z : Int, z = cmpI (R * R) x := ⟨_, rfl⟩
  have HZ := Lib.hid hz
  have hzb : (z != 0) = true := by rw [hz]; exact cmpI_ne hsq
  have HX := Lib.hid hx
  clear hx hsq hR hz
  obtain ⟨q0, q1, q2, q3⟩ := HE.c2 (.tail _ (.head _))
  go_enter Tryz.func92, Tryz.ntmps92
  go_wp2_with fail
  refine (iroot_f HE h (by omega) HX.out).mono ?_
  rw [← HR.out]
  clear HE
  rintro e w1 ⟨s1, D1, m1, d1, rfl, HE⟩
  replace HE := HE.box2 (.bool s1) (.slice D1 m1 d1)
  clear q0 q1 q2 q3
  obtain ⟨q0, q1, q2, q3⟩ := HE.c2 (.head _)
  obtain ⟨q4, q5, q6, q7⟩ := HE.c2 (.tail _ (.tail _ (.head _)))
  obtain ⟨q8, q9, q10, q11⟩ := HE.c2 (.tail _ (.head _))
  go_wp2_with fail
  go_region_held3 (fun w' => w'.cell? ⟨w.heap.size, 0, none⟩ = some (.bool s) ∧ w'.cell? ⟨w.heap.size, 1, none⟩ = some (.slice A n c) ∧ w'.cell? ⟨w.heap.size + 1, 0, none⟩ = some (.bool false) ∧ w'.cell? ⟨w.heap.size + 1, 1, none⟩ = some (.slice none 0 0) ∧ w'.cell? ⟨w1.heap.size, 0, none⟩ = some (.bool s1) ∧ w'.cell? ⟨w1.heap.size, 1, none⟩ = some (.slice D1 m1 d1)) (with_reducible first | exact FEnv.r3 HE | exact FEnv.r3 HE.drew)
    (first
      | (go_at_call 91; refine (imul_f (by with_reducible first | exact HE | exact HE.drew) (by repeat (first | exact .head _ | assumption | refine .tail _ ?_)) (by repeat (first | exact .head _ | assumption | refine .tail _ ?_)) (by omega)).mono ?_; rintro e wn ⟨sx, Ax, nx, cx, rfl, HE⟩)
      | (go_at_call 112; refine (icmp_f (by with_reducible first | exact HE | exact HE.drew) (by repeat (first | exact .head _ | assumption | refine .tail _ ?_)) (by repeat (first | exact .head _ | assumption | refine .tail _ ?_)) (by omega)).mono ?_; rw [← HZ.out]; rintro e wn ⟨rfl, HE⟩; obtain ⟨z0, z1, z2, z3⟩ := HE.c2 (.head _); obtain ⟨z4, z5, z6, z7⟩ := HE.c2 (.tail _ (.head _))))
  go_wp2_with fail
  have HF := HE.done2 (.tail _ (.head _)) false (.slice none 0 0)
  refine bodyPost_ret (v := .tuple #[.agg #[.bool false, .slice none 0 0], .bool false]) (by simp [results, Tryz.results92, go_sem, z4, z5]) rfl ?_
  exact ⟨rfl, HF.tl.tl⟩
theorem iroot_neg (HE : FEnv W0 w bs L ts M) (h : ⟨.agg #[.bool s, .slice A n c], x, k, true⟩ ∈ L) (hk : k ≤ 30000) (hx : x < 0) :
    Calls Tryz.prog 158 #[.agg #[.bool s, .slice A n c]] w fun e w' => e = .returned (.tuple #[.agg #[.bool false, .slice none 0 0], .iface 74 (.int .i64 3)]) ∧ FEnv W0 w' bs L ts M := by
  obtain ⟨h1, h2, h3, h4, h5⟩ := (HE.env.ops _ h).len
  refine (rootneg_any s A (mg x) n c _ w h3 (Nat.le_refl _) h2.symm (by omega) h5 (by rw [h1, zv_own]; exact hx)).mono fun e w' hh => ⟨hh.1, HE.next hh.2⟩
set_option maxRecDepth 100000 in
set_option maxHeartbeats 2400000 in
theorem sqrt_neg (HE : FEnv W0 w bs L ts M) (h : ⟨.agg #[.bool s, .slice A n c], x, k, true⟩ ∈ L) (hk : k ≤ 30000) (hx : x < 0) :
    Calls Tryz.prog 92 #[.agg #[.bool s, .slice A n c]] w (fun e w' => e = .returned (.tuple #[.agg #[.bool false, .slice none 0 0], .bool false]) ∧ FEnv W0 w' bs L ts M) := by
  refine Calls.mono (R := fun e w' => e = .returned (.tuple #[.agg #[.bool false, .slice none 0 0], .bool false]) ∧ FEnv w w' [] L [] M) ?_ fun _ _ hh => ⟨hh.1, HE.back hh.2⟩
  replace HE := (HE.here.box2 (.bool s) (.slice A n c)).box2 (.bool false) (.slice none 0 0)
  simp only [World.size_alloc] at HE
  have HX := Lib.hid hx
  clear hx
  obtain ⟨q0, q1, q2, q3⟩ := HE.c2 (.tail _ (.head _))
  go_enter Tryz.func92, Tryz.ntmps92
  go_wp2_with fail
  refine (iroot_neg HE h (by omega) HX.out).mono ?_
  clear HE
  rintro e w1 ⟨rfl, HE⟩
  replace HE := HE.box2 (.bool false) (.slice none 0 0)
  clear q0 q1 q2 q3
  obtain ⟨q0, q1, q2, q3⟩ := HE.c2 (.head _)
  obtain ⟨q4, q5, q6, q7⟩ := HE.c2 (.tail _ (.tail _ (.head _)))
  obtain ⟨q8, q9, q10, q11⟩ := HE.c2 (.tail _ (.head _))
  go_wp2_with fail
  go_region
  all_goals
    go_wp2_with fail
    have HF := HE.done2 (.tail _ (.head _)) false (.slice none 0 0)
    refine bodyPost_ret (v := .tuple #[.agg #[.bool false, .slice none 0 0], .bool false]) (by simp [results, Tryz.results92, go_sem, q8, q9]) rfl ?_
    first | exact ⟨rfl, HF⟩ | exact ⟨rfl, HF.drew⟩
end
end Go.Proofs.YtbihljnjaondcaaGreatDoor
