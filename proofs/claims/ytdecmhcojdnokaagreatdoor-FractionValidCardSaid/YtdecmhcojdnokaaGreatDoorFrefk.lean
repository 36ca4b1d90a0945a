/- The reference of fractions: Make. -/
import Derived.Test.YtdecmhcojdnokaaGreatDoorFrefm
import Derived.Test.YtdecmhcojdnokaaGreatDoorFfromn
namespace Go.Proofs.YtdecmhcojdnokaaGreatDoor
open Go Go.RowKit Lw
section
variable {W0 w : World} {bs : List Bx} {L : List En} {ts : List Bt} {M : List Qn} {s s' : Bool} {A A' B B' : Option Addr} {n c n' c' m d m' d' k k' : Nat} {q r : Rat} {x y : Int} {b b' : Bool}
set_option maxRecDepth 100000 in
set_option maxHeartbeats 1600000 in
theorem rfmake_f (HE : FEnv W0 w bs L ts M) (n1 : -9223372036854775808 ≤ x) (n2 : x ≤ 9223372036854775807) (n3 : -9223372036854775808 ≤ y) (n4 : y ≤ 9223372036854775807) (hy : y ≠ 0) :
    Calls Tryz.prog 16 #[.int .i64 x, .int .i64 y] w (fun e w' => ∃ (s : Bool) (A : Option Addr) (n c : Nat) (A' : Option Addr) (n' c' : Nat), e = .returned (.tuple #[.agg #[.bool s, .slice A n c, .slice A' n' c'], .int .i64 0]) ∧ FEnv W0 w' bs L ts (⟨.agg #[.bool s, .slice A n c, .slice A' n' c'], Rat.divInt x y, 6, true⟩ :: M)) := by
  refine Calls.mono (R := (fun e w' => ∃ (s : Bool) (A : Option Addr) (n c : Nat) (A' : Option Addr) (n' c' : Nat), e = .returned (.tuple #[.agg #[.bool s, .slice A n c, .slice A' n' c'], .int .i64 0]) ∧ FEnv w w' [] L [] (⟨.agg #[.bool s, .slice A n c, .slice A' n' c'], Rat.divInt x y, 6, true⟩ :: M))) ?_ fun _ _ hh => by obtain ⟨s, A, n, c, A', n', c', e1, he⟩ := hh; exact ⟨s, A, n, c, A', n', c', e1, HE.back he⟩
  replace HE := HE.here.box3 (.bool false) (.slice none 0 0) (.slice none 0 0)
  have HN := Lib.hid (show (-9223372036854775808 ≤ x ∧ x ≤ 9223372036854775807) ∧ -9223372036854775808 ≤ y ∧ y ≤ 9223372036854775807 from ⟨⟨n1, n2⟩, n3, n4⟩)
  have HY := Lib.hid hy
  clear n1 n2 n3 n4 hy
  obtain ⟨q0, q1, q2, q3, q4, q5⟩ := HE.c3 (.head _)
  go_enter Tryz.func16, Tryz.ntmps16
  go_wp2_with fail
  refine (rof_f HE HN.out.1.1 HN.out.1.2).mono ?_
  clear HE
  rintro e w1 ⟨s1, A1, n1, c1, rfl, HE⟩
  clear q0 q1 q2 q3 q4 q5
  go_wp2_with fail
  refine (rof_f HE HN.out.2.1 HN.out.2.2).mono ?_
  clear HE
  rintro e w2 ⟨s2, A2, n2, c2, rfl, HE⟩
  go_wp2_with fail
  refine (rffrom_f HE (.tail _ (.head _)) (.head _) (by omega) HY.out).mono ?_
  clear HE
  rintro e w3 ⟨sx, Ax, nx, cx, Ay, ny, cy, rfl, HE⟩
  obtain ⟨q6, q7, q8, q9, q10, q11⟩ := HE.c3 (.head _)
  go_wp2_with fail
  refine bodyPost_ret (v := .tuple #[.agg #[.bool sx, .slice Ax nx cx, .slice Ay ny cy], .int .i64 0]) (by simp [results, Tryz.results16, go_sem, q6, q7, q8]) rfl ?_
  have HK := (HE.done3 (D := Ax) (m := nx) (d := cx) (.head _) sx (.slice Ay ny cy)).bare
  exact ⟨_, _, _, _, _, _, _, rfl, HK.pick (fun e he => .tail _ (.tail _ he)) (fun _ he => he)⟩
set_option maxRecDepth 100000 in
set_option maxHeartbeats 1600000 in
theorem rfmakez_f (HE : FEnv W0 w bs L ts M) (n1 : -9223372036854775808 ≤ x) (n2 : x ≤ 9223372036854775807) (n3 : -9223372036854775808 ≤ y) (n4 : y ≤ 9223372036854775807) (hy : y = 0) :
    Calls Tryz.prog 16 #[.int .i64 x, .int .i64 y] w (fun e w' => e = .returned (.tuple #[.agg #[.bool false, .slice none 0 0, .slice none 0 0], .int .i64 8]) ∧ FEnv W0 w' bs L ts M) := by
  refine Calls.mono (R := (fun e w' => e = .returned (.tuple #[.agg #[.bool false, .slice none 0 0, .slice none 0 0], .int .i64 8]) ∧ FEnv w w' [] L [] M)) ?_ fun _ _ hh => ⟨hh.1, HE.back hh.2⟩
  replace HE := HE.here.box3 (.bool false) (.slice none 0 0) (.slice none 0 0)
  have HN := Lib.hid (show (-9223372036854775808 ≤ x ∧ x ≤ 9223372036854775807) ∧ -9223372036854775808 ≤ y ∧ y ≤ 9223372036854775807 from ⟨⟨n1, n2⟩, n3, n4⟩)
  have HY := Lib.hid hy
  clear n1 n2 n3 n4 hy
  obtain ⟨q0, q1, q2, q3, q4, q5⟩ := HE.c3 (.head _)
  go_enter Tryz.func16, Tryz.ntmps16
  go_wp2_with fail
  refine (rof_f HE HN.out.1.1 HN.out.1.2).mono ?_
  clear HE
  rintro e w1 ⟨s1, A1, n1, c1, rfl, HE⟩
  clear q0 q1 q2 q3 q4 q5
  go_wp2_with fail
  refine (rof_f HE HN.out.2.1 HN.out.2.2).mono ?_
  clear HE
  rintro e w2 ⟨s2, A2, n2, c2, rfl, HE⟩
  go_wp2_with fail
  refine (rffromz_f HE (.tail _ (.head _)) (.head _) (by omega) HY.out).mono ?_
  clear HE
  rintro e w3 ⟨rfl, HE⟩
  obtain ⟨q6, q7, q8, q9, q10, q11⟩ := HE.c3 (.head _)
  go_wp2_with fail
  refine bodyPost_ret (v := .tuple #[.agg #[.bool false, .slice none 0 0, .slice none 0 0], .int .i64 8]) (by simp [results, Tryz.results16, go_sem, q6, q7, q8]) rfl ?_
  have HK := (HE.done3 (D := none) (m := 0) (d := 0) (.head _) false (.slice none 0 0)).bare
  exact ⟨rfl, HK.pick (fun e he => .tail _ (.tail _ he)) (fun _ he => he)⟩
end
end Go.Proofs.YtdecmhcojdnokaaGreatDoor
